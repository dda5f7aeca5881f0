import Derived.Test.YtomijmikkbhgmaaGreatT23
namespace Go.Proofs.YtomijmikkbhgmaaGreat
open Go.RowKit

set_option maxHeartbeats 2000000 in
theorem eventsR_any (T : List (List Ins)) (fa : Bool) (c : List Atm) (v vt vc : Value) (w : World) (h : TestAt w v T fa c vt vc) :
    Calls Tryz.prog 62 #[v] w fun e w' => ∃ u, e = .returned (.tuple #[u, .int .i64 (chk T c).1]) ∧ Ev4At w' u (evsR T c) ∧ Below w.heap.size w w' := by
  have HT : Hid (TestAt w v T fa c vt vc) := h
  obtain ⟨hv, _, _⟩ := h
  subst hv
  have HZ : Hid (((chk T c).1 == 0) = true → sizeB T c = true) := chk_zero
  have HE : Hid (evsR T c = if (chk T c).1 == 0 then evsT T 0 else []) := rfl
  generalize hq : chk T c = q at HZ HE
  have HQ : Hid (chk T c = q) := hq
  clear hq
  generalize evsR T c = E at HE
  obtain ⟨i0, hi, hz0, hz1, hz2⟩ := info_parts Tryz.infoEvent
  have HI : Hid (Tryz.prog.info? 75 = some i0 ∧ i0.zero = some (.agg #[.int .i64 0, .int .i64 0, .int .i64 0, .int .i64 0]) ∧ i0.size = 4 ∧ i0.bytes = 32) := ⟨hi, hz0, hz1, hz2⟩
  clear hi hz0 hz1 hz2
  go_enter Tryz.func62, Tryz.ntmps62
  go_wp2_with fail
  refine (checkR_any T fa c _ vt vc _ (HT.out.keep (below_alloc _ _))).mono ?_
  rw [HQ.out]
  rintro e w3 ⟨rfl, hb3⟩
  have e0 := keep_cell hb3 (b := w.heap.size) (off := 0) (u := vt) (by simp)
  have e1 := keep_cell hb3 (b := w.heap.size) (off := 1) (u := .bool fa) (by simp)
  have e2 := keep_cell hb3 (b := w.heap.size) (off := 2) (u := vc) (by simp)
  have hbw3 := below_more (below_alloc _ _) hb3
  clear hb3
  cases hz : q.1 == 0
  · have hz2 : (q.1 != 0) = true := by simp [bne, hz]
    have HE2 : Hid (E = []) := HE.out.trans (by rw [hz]; rfl)
    clear HE
    go_wp2_with fail
    go_ret2
    exact ⟨_, rfl, by rw [HE2.out]; exact ev4_nil _, hbw3⟩
  · have hz2 : (q.1 != 0) = false := by simp [bne, hz]
    have HE2 : Hid (evsT T 0 = E) := (HE.out.trans (by rw [hz]; rfl)).symm
    have hq0 : q.1 = 0 := by simpa using hz
    obtain ⟨h2, hL, _⟩ := sizeB_parts (HZ.out hz)
    have hEl : E.length ≤ 96 := by rw [← HE2.out]; have := evsT_len T 0 hL; omega
    have HL : Hid (lensB T = true) := hL
    have HQ0 : Hid (q.1 = 0) := hq0
    clear HE hL hq0
    go_wp2_with fail
    refine (events_any T fa c _ vt vc _ (HT.out.keep hbw3) h2 HL.out).mono ?_
    rw [HE2.out]
    rintro e w5 ⟨u5, rfl, hu, hb5⟩
    have hbw5 := below_more hbw3 hb5
    obtain ⟨ao, b, off, cap, hv5, ha, _, hc⟩ := hu
    subst hv5
    have HC : Hid (∀ k x, E[k]? = some x → Ev9C w5 b (off + k * 9) x) := hc
    clear hb5 e0 e1 e2 hc
    go_wp2_with fail
    go_loopw [7, 8] (fun u i wr => ∃ (k : Nat) (L : List Evt), k ≤ E.length ∧ i = .int .i64 k ∧ Hid (L = E.take k) ∧ L.length ≤ k ∧ wr.ownsRow w5.heap.size 75 4 u L.length (L.flatMap ev4) ∧ Below w5.heap.size w5 wr) (fun _ i _ => E.length - (intOf i).toNat)
    case atStart => exact ⟨0, [], Nat.zero_le _, rfl, rfl, Nat.le_refl _, World.ownsRow_nil _ _ _ _, Below.refl _ _⟩
    case round =>
      obtain ⟨k, L, hk, rfl, hn, hLk, hown, hb⟩ := hrel
      have hsz := hb.size
      by_cases hlt : k < E.length
      · obtain ⟨x, hx⟩ := get_of_lt hlt
        obtain rfl := ha (ne_nil hlt)
        obtain ⟨c0, c1, c2, c3, -, -, -, -, -⟩ := ev9C_keeps _ _ _ _ _ hb (HC.out k x hx)
        have hl0 := World.block_lt_of_cell? _ _ c0
        have HN : Hid (L ++ [x] = E.take (k + 1)) := by unfold Hid; rw [hn.out, take_snoc hx]
        have hkI : (k : Int) < (E.length : Int) := by omega
        clear hn hx
        go_wp2_with fail
        go_region_law (refine step_append_new _ rfl (.tmp 25) (.tmp 47) 73 rfl w5.heap.size 75 i0 (.agg #[.int .i64 0, .int .i64 0, .int .i64 0, .int .i64 0]) 4 32 Tryz.underlying73 HI.out.1 HI.out.2.1 HI.out.2.2.1 HI.out.2.2.2 rfl (by decide) u7 L.length (L.flatMap ev4) (by simp [Act.eval]) (hown.drew.alloc _) (some ⟨wr.heap.size, 0, none⟩) 1 1 (ev4 x) (by simp [Act.eval]) (fun h => by cases h) rfl (fun ad had => by cases had; exact new_many rfl) (by simp [ev4, Value.oneCell']) (by unfold maxLen; omega) (by omega) (by simp; omega) ?_; intro u' w1 hown' hgrow hap')
        all_goals
          have hb' : Below w5.heap.size w5 w1 := Below.grown ((hb.alloc hsz _).drew) hgrow (by simp; omega) (fun kk e => (hown.lt kk e).1)
          have HO : Hid (w1.ownsRow w5.heap.size 75 4 u' (L ++ [x]).length ((L ++ [x]).flatMap ev4)) := own_snocF hown' rfl
          clear hgrow hown hap' hown' c0 c1 c2 c3 hb hl0
          go_wp2_with fail
          go_roundw
          case measure => simp [intOf]; omega
          case rel => exact ⟨k + 1, _, by omega, by go_num, HN.out, by simp; omega, HO.out, hb'⟩
      · have HF : Hid (L = E) := by unfold Hid; rw [hn.out, List.take_of_length_le (by omega)]
        clear hn
        go_wp2_with fail
        go_ret2
        exact ⟨_, by rw [HQ0.out]; rfl, by rw [← HF.out]; exact owns_ev4 hown, below_more hbw5 hb⟩

end Go.Proofs.YtomijmikkbhgmaaGreat
