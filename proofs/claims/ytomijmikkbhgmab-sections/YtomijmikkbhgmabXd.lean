import Derived.Test.YtomijmikkbhgmabT45
namespace Go.Proofs.Ytomijmikkbhgmab
open Go.RowKit

/-- Three rows of instructions, in a literal. -/
theorem thr_lit3 {w : World} {u0 u1 u2 : Value} {l0 l1 l2 : List Ins} {t : TypeId} (h0 : InsAt w u0 l0) (h1 : InsAt w u1 l1) (h2 : InsAt w u2 l2) : ThrAt (w.alloc (.cells #[u0, u1, u2] t)) (.slice (some ⟨w.heap.size, 0, none⟩) 3 3) [l0, l1, l2] := by
  have hb := below_alloc w (.cells #[u0, u1, u2] t)
  refine ⟨by simp, _, w.heap.size, 0, _, rfl, fun _ => rfl, fun h => by simp at h, fun k l hk => ?_⟩
  have hc : ∀ u, [u0, u1, u2][k]? = some u → (w.alloc (.cells #[u0, u1, u2] t)).cell? ⟨w.heap.size, 0 + k * 1, none⟩ = some u := fun u hu => by
    rw [Nat.zero_add, Nat.mul_one]
    exact cell_new rfl (by simpa using hu)
  match k, hk with
  | 0, hk => simp at hk; subst hk; exact ⟨u0, hc u0 rfl, h0.keep hb⟩
  | 1, hk => simp at hk; subst hk; exact ⟨u1, hc u1 rfl, h1.keep hb⟩
  | 2, hk => simp at hk; subst hk; exact ⟨u2, hc u2 rfl, h2.keep hb⟩
  | k + 3, hk => simp at hk

def anyK (p q : List Int) (v : Int) (K : List (List Int × Nat)) (k : Nat) : Bool := (K.take k).any fun r => allB r.1 3 v p.length && allB r.1 6 v q.length
theorem anyK_step {p q : List Int} {v : Int} {K : List (List Int × Nat)} {k : Nat} {r : List Int × Nat} (h : K[k]? = some r) : anyK p q v K (k + 1) = (anyK p q v K k || (allB r.1 3 v p.length && allB r.1 6 v q.length)) := by
  unfold anyK
  rw [take_snoc h, List.any_append]
  simp
theorem anyK_all {p q : List Int} {v : Int} {K : List (List Int × Nat)} (h : ∃ r ∈ K, (allB r.1 3 v p.length && allB r.1 6 v q.length) = true) : anyK p q v K K.length = true := by
  unfold anyK
  rw [List.take_length]
  exact List.any_eq_true.2 h

set_option maxRecDepth 20000 in
set_option maxHeartbeats 4000000 in
theorem sections_any (L M : List Int) (hL : L.length ≤ 4000000000000000000) (hM : M.length ≤ 4000000000000000000) (hIL : I64 L) (hIM : I64 M) (vl vm : Value) (w : World) (hl : IntAt w vl L) (hm : IntAt w vm M) :
    Calls Try.prog 7 #[vl, vm] w fun e w' => e = .returned (.bool true) ∧ Below w.heap.size w w' := by
  obtain ⟨al, hal⟩ := als_ex (secT (patL L) (patL M)) (evsT (secT (patL L) (patL M)) 0)
  obtain ⟨hz, hok⟩ := sec_ok (patL_mem L) (patL_mem M) al hal
  have h0 : (chk (secT (patL L) (patL M)) []).1 = 0 := by simpa using hz
  have HRL : Hid (∀ w', Below w.heap.size w w' → Calls Try.prog 18 #[vl] w' fun e w'' => ∃ u, e = .returned u ∧ Hid (InsAt w'' u (rdrT (patL L))) ∧ Below w'.heap.size w' w'') := fun w' hb => reader_any L hL hIL vl w' (hl.keep hb)
  have HRM : Hid (∀ w', Below w.heap.size w w' → Calls Try.prog 18 #[vm] w' fun e w'' => ∃ u, e = .returned u ∧ Hid (InsAt w'' u (rdrT (patL M))) ∧ Below w'.heap.size w' w'') := fun w' hb => reader_any M hM hIM vm w' (hm.keep hb)
  have HOUT : Hid (∀ (w' : World) (vt vc : Value), TestAt w' (.agg #[vt, .bool false, vc]) (secT (patL L) (patL M)) false [] vt vc → Calls Try.prog 19 #[.agg #[vt, .bool false, vc]] w' fun e w'' => ∃ u, e = .returned (.tuple #[u, .int .i64 0]) ∧ Hid (OutAt w'' u (outT al (secT (patL L) (patL M)))) ∧ Below w'.heap.size w' w'') := fun w' vt vc ht => (outcomesP_any (secT (patL L) (patL M)) false [] al hal vt vc w' ht).mono fun e w'' ⟨u, er, he, ho, hb⟩ => by
    rcases ho with ⟨h1, _⟩ | ⟨_, rfl, h1⟩
    · exact absurd h0 h1
    · exact ⟨u, he, h1, hb⟩
  have HSL : Hid (∀ (w' : World) (u : Value) (S : List Int), S.length = 12 → Below w.heap.size w w' → IntAt w' u S → Calls Try.prog 20 #[vl, u, .int .i64 3] w' fun e w'' => e = .returned (.bool (earB (patL L) S 3 (patL L).length && latB (patL L) S 3 (patL L).length)) ∧ Below w'.heap.size w' w'') := fun w' u S hS hb hu => split_any L S hL hIL hS 3 (by omega) vl u w' (hl.keep hb) hu
  have HSM : Hid (∀ (w' : World) (u : Value) (S : List Int), S.length = 12 → Below w.heap.size w w' → IntAt w' u S → Calls Try.prog 20 #[vm, u, .int .i64 6] w' fun e w'' => e = .returned (.bool (earB (patL M) S 6 (patL M).length && latB (patL M) S 6 (patL M).length)) ∧ Below w'.heap.size w' w'') := fun w' u S hS hb hu => split_any M S hM hIM hS 6 (by omega) vm u w' (hm.keep hb) hu
  have HAL : Hid (∀ (v : Int) (w' : World) (u : Value) (S : List Int), S.length = 12 → Below w.heap.size w w' → IntAt w' u S → Calls Try.prog 21 #[vl, u, .int .i64 3, .int .i64 v] w' fun e w'' => e = .returned (.bool (allB S 3 v (patL L).length)) ∧ Below w'.heap.size w' w'') := fun v w' u S hS hb hu => allS_any L S hL hS 3 (by omega) v vl u w' (hl.keep hb) hu
  have HAM : Hid (∀ (v : Int) (w' : World) (u : Value) (S : List Int), S.length = 12 → Below w.heap.size w w' → IntAt w' u S → Calls Try.prog 21 #[vm, u, .int .i64 6, .int .i64 v] w' fun e w'' => e = .returned (.bool (allB S 6 v (patL M).length)) ∧ Below w'.heap.size w' w'') := fun v w' u S hS hb hu => allS_any M S hM hS 6 (by omega) v vm u w' (hm.keep hb) hu
  have HSEC : Hid (∀ r0 r1 : List Ins, r0 = rdrT (patL L) → r1 = rdrT (patL M) → secT (patL L) (patL M) = [[⟨0, 0, 0, 1, 0⟩, ⟨7, 0, 0, 0, 0⟩, ⟨0, 1, 0, 1, 0⟩], r0, r1]) := fun _ _ h1 h2 => by rw [h1, h2]; rfl
  have HOK : Hid (SecOk (patL L) (patL M) (outT al (secT (patL L) (patL M)))) := hok
  generalize outT al (secT (patL L) (patL M)) = K at HOUT HOK
  generalize secT (patL L) (patL M) = TT at HOUT HSEC
  generalize hpL : patL L = pL at *
  generalize hpM : patL M = pM at *
  obtain ⟨aol, cl, fl⟩ := hl.form
  obtain ⟨aom, cm, fm⟩ := hm.form
  subst fl fm
  clear hl hm hal hok hz h0 hpL hpM hIL hIM
  go_enter Try.func7, Try.ntmps7
  go_wp2_with fail
  have hba := below_alloc w (.cells #[.int .i64 0, .int .i64 0, .int .i64 0, .int .i64 1, .int .i64 0, .int .i64 7, .int .i64 0, .int .i64 0, .int .i64 0, .int .i64 0, .int .i64 0, .int .i64 1, .int .i64 0, .int .i64 1, .int .i64 0] 37)
  have HW : Hid (InsAt (w.alloc (.cells #[.int .i64 0, .int .i64 0, .int .i64 0, .int .i64 1, .int .i64 0, .int .i64 7, .int .i64 0, .int .i64 0, .int .i64 0, .int .i64 0, .int .i64 0, .int .i64 1, .int .i64 0, .int .i64 1, .int .i64 0] 37)) (.slice (some ⟨w.heap.size, 0, none⟩) 3 3) [⟨0, 0, 0, 1, 0⟩, ⟨7, 0, 0, 0, 0⟩, ⟨0, 1, 0, 1, 0⟩]) :=
    InsS.lit (B := w.heap.size) (w := w) (l := [⟨0, 0, 0, 1, 0⟩, ⟨7, 0, 0, 0, 0⟩, ⟨0, 1, 0, 1, 0⟩]) (t := 37) (Nat.le_refl _) (by simp) _ (Same.refl _ _)
  refine (HRL.out _ hba).mono ?_
  rintro e w3 ⟨u1, rfl, hu1, hb3⟩
  obtain ⟨a1, n1, k1, hf1⟩ : ∃ a n k, u1 = .slice a n k := by
    obtain ⟨_, a, _, _, k, hs⟩ := hu1.out
    exact ⟨a, _, k, hs.hv⟩
  subst hf1
  have hbw3 := below_more hba hb3
  go_wp2_with fail
  refine (HRM.out _ hbw3).mono ?_
  rintro e w4 ⟨u2, rfl, hu2, hb4⟩
  obtain ⟨a2, n2, k2, hf2⟩ : ∃ a n k, u2 = .slice a n k := by
    obtain ⟨_, a, _, _, k, hs⟩ := hu2.out
    exact ⟨a, _, k, hs.hv⟩
  subst hf2
  have hbw4 := below_more hbw3 hb4
  have HTT : Hid (TestAt ((w4.alloc (.cells #[.slice (some ⟨w.heap.size, 0, none⟩) 3 3, .slice a1 n1 k1, .slice a2 n2 k2] 34)).alloc (.cells #[.slice (some ⟨w4.heap.size, 0, none⟩) 3 3, .bool false, .slice none 0 0] 25)) (.agg #[.slice (some ⟨w4.heap.size, 0, none⟩) 3 3, .bool false, .slice none 0 0]) TT false [] (.slice (some ⟨w4.heap.size, 0, none⟩) 3 3) (.slice none 0 0)) := by
    rw [HSEC.out _ _ rfl rfl]
    exact test_mk ((thr_lit3 (HW.out.keep (below_more hb3 hb4)) (hu1.out.keep hb4) hu2.out).keep (below_alloc _ _)) ⟨by simp, none, 0, 0, 0, rfl, fun h => absurd rfl h, fun _ => ⟨rfl, rfl⟩, fun k x h => by simp at h⟩
  have hbw5 : Below w.heap.size w ((w4.alloc (.cells #[.slice (some ⟨w.heap.size, 0, none⟩) 3 3, .slice a1 n1 k1, .slice a2 n2 k2] 34)).alloc (.cells #[.slice (some ⟨w4.heap.size, 0, none⟩) 3 3, .bool false, .slice none 0 0] 25)) := below_more hbw4 (below_two w4 _ _)
  clear hu1 hu2 hb3 hb4 hbw3 HW HSEC
  go_wp2_with fail
  refine (HOUT.out _ _ _ HTT.out).mono ?_
  rintro e w6 ⟨u6, rfl, hu6, hb6⟩
  have hbw6 := below_more hbw5 hb6
  obtain ⟨r, cap, hform⟩ := hu6.out.form2 HOK.out.fit.ne
  subst hform
  obtain ⟨ao, b, off, cap', hv, ha, _, hc⟩ := hu6.out
  have hvv := hv
  simp only [Value.slice.injEq] at hvv
  obtain ⟨hrr, -, rfl⟩ := hvv
  obtain rfl := ha HOK.out.fit.ne
  cases hrr
  have HC : Hid (∀ k p, K[k]? = some p → OutC w6 b (off + k * 2) p) := hc
  have hlnb : K.length ≤ 2000 := HOK.out.fit.few
  have HLK : Hid (∀ (p q : List Int) (v : Int), (∃ r ∈ K, (allB r.1 3 v p.length && allB r.1 6 v q.length) = true) → anyK p q v K K.length = true) := fun p q v h => anyK_all h
  clear hu6 hv ha hc HTT HOUT HRL HRM hb6 hbw5 hbw4
  go_wp2_with fail
  go_loopw [9, 10, 11] (fun x y i wr => ∃ (k : Nat) (B1 B2 : Bool), k ≤ K.length ∧ i = .int .i64 k ∧ x = .bool B1 ∧ y = .bool B2 ∧ Hid (anyK pL pM 0 K k = B1 ∧ anyK pL pM 1 K k = B2) ∧ Below w6.heap.size w6 wr) (fun _ _ i _ => K.length - (intOf i).toNat)
  case atStart => exact ⟨0, false, false, Nat.zero_le _, rfl, rfl, rfl, ⟨rfl, rfl⟩, Below.refl _ _⟩
  case round =>
    obtain ⟨k, B1, B2, hk, rfl, rfl, rfl, HB, hb⟩ := hrel
    by_cases hlt : k < K.length
    · have hkI : (k : Int) < (K.length : Int) := by omega
      obtain ⟨q, hq⟩ := get_of_lt hlt
      have hmem := List.mem_of_getElem? hq
      obtain ⟨u1, c0, c1, hi1⟩ := outC_keeps _ _ _ _ _ hb (HC.out k q hq)
      have hql : q.1.length = 12 := HOK.out.fit.len q hmem
      obtain ⟨as1, cs1, e1⟩ := hi1.form
      rw [hql] at e1
      subst e1
      have hbwr := below_more hbw6 hb
      have HQ : Hid (∀ w', Below wr.heap.size wr w' → IntAt w' (.slice as1 12 cs1) q.1 ∧ q.1.length = 12) := fun w' hb' => ⟨hi1.keep hb', hql⟩
      have HS1 : Hid ((earB pL q.1 3 pL.length && latB pL q.1 3 pL.length) = false) := HOK.out.one q hmem
      have HS2 : Hid ((earB pM q.1 6 pM.length && latB pM q.1 6 pM.length) = false) := HOK.out.two q hmem
      have HB' : Hid (anyK pL pM 0 K (k + 1) = (B1 || (allB q.1 3 0 pL.length && allB q.1 6 0 pM.length)) ∧ anyK pL pM 1 K (k + 1) = (B2 || (allB q.1 3 1 pL.length && allB q.1 6 1 pM.length))) := ⟨by rw [anyK_step hq, HB.out.1], by rw [anyK_step hq, HB.out.2]⟩
      clear hi1 hq hmem hql HB
      go_wp2_with fail
      refine (HSL.out wr _ q.1 (HQ.out wr (Below.refl _ _)).2 hbwr (HQ.out wr (Below.refl _ _)).1).mono ?_
      rintro e w7 ⟨rfl, hb7⟩
      rw [HS1.out]
      clear c0 c1
      go_wp2_with fail
      refine (HSM.out w7 _ q.1 (HQ.out w7 hb7).2 (below_more hbwr hb7) (HQ.out w7 hb7).1).mono ?_
      rintro e w8 ⟨rfl, hb8⟩
      rw [HS2.out]
      have hb18 := below_more hb7 hb8
      go_wp2_with fail
      refine (HAL.out 0 w8 _ q.1 (HQ.out w8 hb18).2 (below_more hbwr hb18) (HQ.out w8 hb18).1).mono ?_
      rintro e w9 ⟨rfl, hb9⟩
      have hb19 := below_more hb18 hb9
      generalize hX1 : allB q.1 3 0 pL.length = X1 at *
      go_wp2_with fail
      refine (HAM.out 0 w9 _ q.1 (HQ.out w9 hb19).2 (below_more hbwr hb19) (HQ.out w9 hb19).1).mono ?_
      rintro e w10 ⟨rfl, hb10⟩
      have hb110 := below_more hb19 hb10
      generalize hX2 : allB q.1 6 0 pM.length = X2 at *
      clear hb7 hb8 hb9 hb10 hb18 hb19
      go_upto_region 20 with fail
      go_cut [9] from 35 to 84 (fun s wc => s = .bool (B1 || (X1 && X2)) ∧ w10 = wc)
      case first =>
        cases B1 <;> cases X1
        all_goals
          go_wp2_with fail
          go_meet
          case rel => exact ⟨rfl, rfl⟩
      case rest =>
        obtain ⟨rfl, rfl⟩ := hcut
        generalize hN1 : (B1 || (X1 && X2)) = N1 at *
        have HN1 : Hid (anyK pL pM 0 K (k + 1) = N1) := HB'.out.1
        clear hX1 hX2 hN1
        go_wp2_with fail
        refine (HAL.out 1 w10 _ q.1 (HQ.out w10 hb110).2 (below_more hbwr hb110) (HQ.out w10 hb110).1).mono ?_
        rintro e w11 ⟨rfl, hb11⟩
        have hb111 := below_more hb110 hb11
        generalize hX3 : allB q.1 3 1 pL.length = X3 at *
        go_wp2_with fail
        refine (HAM.out 1 w11 _ q.1 (HQ.out w11 hb111).2 (below_more hbwr hb111) (HQ.out w11 hb111).1).mono ?_
        rintro e w12 ⟨rfl, hb12⟩
        have hb112 := below_more hb111 hb12
        generalize hX4 : allB q.1 6 1 pM.length = X4 at *
        have HN2 : Hid (anyK pL pM 1 K (k + 1) = (B2 || (X3 && X4))) := HB'.out.2
        have hbf := below_more hb hb112
        clear hb11 hb12 hb111 hb110 hb112 HB' HQ HS1 HS2 hX3 hX4 hbwr
        cases B2 <;> cases X3
        all_goals
          go_wp2_with fail
          go_roundw
          case measure => simp [intOf]; omega
          case rel => exact ⟨k + 1, N1, _, by omega, by go_num, rfl, rfl, ⟨HN1.out, HN2.out⟩, hbf⟩
    · have hkI : ¬ (k : Int) < (K.length : Int) := by omega
      obtain rfl : k = K.length := by omega
      obtain rfl : B1 = true := by rw [← HB.out.1]; exact HLK.out _ _ _ HOK.out.no
      obtain rfl : B2 = true := by rw [← HB.out.2]; exact HLK.out _ _ _ HOK.out.yes
      clear HB
      go_wp2_with fail
      go_ret
      exact ⟨rfl, below_more hbw6 hb⟩

end Go.Proofs.Ytomijmikkbhgmab
