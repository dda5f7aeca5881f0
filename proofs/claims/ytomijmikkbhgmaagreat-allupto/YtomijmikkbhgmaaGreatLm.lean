import Derived.Test.YtomijmikkbhgmaaGreatT2
import Derived.Test.YtomijmikkbhgmaaGreatT1
import Derived.Deep.RegionLaw
namespace Go.Proofs.YtomijmikkbhgmaaGreat
open Go.RowKit

theorem Tryz.infoEv : (Tryz.prog.info? 124).map (fun i => (i.zero, i.size, i.bytes)) = some (some (.agg #[.int .i64 0, .int .i64 0, .int .i64 0, .int .i64 0, .int .i64 0, .int .i64 0, .int .i64 0, .int .i64 0, .int .i64 0]), 9, 72) := by kernel_rfl

/-- A boxed test: the world behind the box. -/
structure Boxed (w W : World) (vt vc : Value) (fa : Bool) : Prop where
  below : Below w.heap.size w W
  size : W.heap.size = w.heap.size + 1
  c0 : W.cell? ⟨w.heap.size, 0, none⟩ = some vt
  c1 : W.cell? ⟨w.heap.size, 1, none⟩ = some (.bool fa)
  c2 : W.cell? ⟨w.heap.size, 2, none⟩ = some vc

theorem boxed (w : World) (vt vc : Value) (fa : Bool) (t : TypeId) : Boxed w (w.alloc (.cells #[vt, .bool fa, vc] t)) vt vc fa :=
  ⟨below_alloc _ _, by simp, by simp, by simp, by simp⟩

set_option maxHeartbeats 2000000 in
theorem events_any (T : List (List Ins)) (fa : Bool) (c : List Atm) (v vt vc : Value) (w : World) (h : TestAt w v T fa c vt vc) (h2 : T.length ≤ 4) (hL : lensB T = true) :
    Calls Tryz.prog 42 #[v] w fun e w' => ∃ u, e = .returned u ∧ Ev9At w' u (evsT T 0) ∧ Below w.heap.size w w' := by
  obtain ⟨hv, ht, ⟨hc0, ao', b', off', cap', hcv, _, _, _⟩⟩ := h
  obtain ⟨ht0, ao, b, off, cap, htv, hta, _, htc⟩ := ht.opened
  subst hv htv hcv
  obtain ⟨i0, hi, hz0, hz1, hz2⟩ := info_parts Tryz.infoEv
  have HI : Hid (Tryz.prog.info? 124 = some i0 ∧ i0.zero = some (.agg #[.int .i64 0, .int .i64 0, .int .i64 0, .int .i64 0, .int .i64 0, .int .i64 0, .int .i64 0, .int .i64 0, .int .i64 0]) ∧ i0.size = 9 ∧ i0.bytes = 72) := ⟨hi, hz0, hz1, hz2⟩
  clear hi hz0 hz1 hz2
  go_enter Tryz.func42, Tryz.ntmps42
  go_wp2_with fail
  have hbox := boxed w (.slice ao T.length cap) (.slice ao' c.length cap') fa 25
  generalize w.alloc (.cells #[.slice ao T.length cap, .bool fa, .slice ao' c.length cap'] 25) = W at hbox ⊢
  obtain ⟨hbW, hWs, g0, _, _⟩ := hbox
  clear hWs
  go_loopw [3, 4] (fun u i wr => ∃ (k : Nat) (E : List Evt), k ≤ T.length ∧ i = .int .i64 k ∧ Hid (evsT T 0 = E ++ evsT (T.drop k) k) ∧ E.length ≤ 24 * k ∧ wr.ownsRow W.heap.size 124 9 u E.length (E.flatMap ev9) ∧ Below W.heap.size W wr) (fun _ i _ => T.length - (intOf i).toNat)
  case atStart => exact ⟨0, [], Nat.zero_le _, rfl, rfl, Nat.le_refl _, World.ownsRow_nil _ _ _ _, Below.refl _ _⟩
  case round =>
    obtain ⟨k, E, hk, rfl, hn, hE, hown, hb⟩ := hrel
    have g1 := keep_cell hb g0
    by_cases hlt : k < T.length
    · obtain ⟨l, hx⟩ := get_of_lt hlt
      obtain ⟨hbl, ao2, cap2, c0, hil⟩ := htc k l hx
      obtain rfl := hta (ne_nil hlt)
      have hl12 := lensB_get hL hx
      have HN : Hid (evsT T 0 = E ++ (evsI k l 0 ++ evsT (T.drop (k + 1)) (k + 1))) := hn.out.trans (by rw [drop_cons hx]; rfl)
      have HC0 : Hid (W.cell? ⟨b, off + k, none⟩ = some (.slice ao2 l.length cap2)) := keep_cell hbW c0
      have HIL : Hid (InsAt W (.slice ao2 l.length cap2) l) := hil.keep hbW
      have HL : Hid (lensB T = true) := hL
      have HTC : Hid (∀ k l, T[k]? = some l → b < w.heap.size ∧ ∃ ao' cap', w.cell? ⟨b, off + k, none⟩ = some (.slice ao' l.length cap') ∧ InsAt w (.slice ao' l.length cap') l) := htc
      clear hx hn hil ht c0 hL htc hta
      generalize hR : evsT (T.drop (k + 1)) (k + 1) = R at HN
      have HR : Hid (evsT (T.drop (k + 1)) (k + 1) = R) := hR
      clear hR
      go_wp2_with fail
      go_loopw [3, 5] (fun u i wr => ∃ (j : Nat) (E : List Evt), j ≤ l.length ∧ i = .int .i64 j ∧ Hid (evsT T 0 = E ++ (evsI k (l.drop j) j ++ R)) ∧ E.length ≤ 24 * k + 2 * j ∧ wr.ownsRow W.heap.size 124 9 u E.length (E.flatMap ev9) ∧ Below W.heap.size W wr) (fun _ i _ => l.length - (intOf i).toNat)
      case atStart => exact ⟨0, E, Nat.zero_le _, rfl, HN.out, by omega, hown, hb⟩
      case round =>
        clear HN hown hb hE g1
        obtain ⟨j, E2, hj, rfl, hn, hE2, hown, hb2⟩ := hrel
        have hsz := hb2.size
        have g1 := keep_cell hb2 g0
        have g2 := keep_cell hb2 HC0.out
        by_cases hlt2 : j < l.length
        · obtain ⟨x, hx⟩ := get_of_lt hlt2
          obtain ⟨_, ao3, b3, off3, cap3, hv3, ha3, _, hc3⟩ := HIL.out
          have hC := hc3 j x hx
          have hbl3 := hC.lt
          obtain ⟨c0, c1, c2, c3, c4⟩ := insC_keeps _ _ _ _ _ hb2 hC
          have HN2 : Hid (evsT T 0 = E2 ++ (evsK k j x (kindsOf x.op) ++ (evsI k (l.drop (j + 1)) (j + 1) ++ R))) := hn.out.trans (by rw [drop_cons hx, evsI]; simp)
          simp only [Value.slice.injEq] at hv3
          obtain ⟨e1, _, e3⟩ := hv3
          rw [ha3 (ne_nil hlt2)] at e1
          subst e1
          clear hn hc3 hC ha3 e3 hx
          generalize hR2 : evsI k (l.drop (j + 1)) (j + 1) ++ R = R2 at HN2
          have HR2 : Hid (evsI k (l.drop (j + 1)) (j + 1) ++ R = R2) := hR2
          clear hR2
          have hkl := kindsOf_len x.op
          generalize hks : kindsOf x.op = ks at HN2 hkl
          have HKS : Hid (kindsOf x.op = ks) := hks
          clear hks
          go_wp2_with (go_at_call 79; refine (kindsR_any x.op _).mono ?_; rw [HKS.out]; rintro e w3 ⟨u2, rfl, hu2, hb3⟩; obtain ⟨ao4, b4, off4, cap4, ⟨hv4, ha4, _, hc4⟩, hb4⟩ := hu2; subst hv4)
          simp only [World.size_alloc] at hb4
          have hown3 := own_keep (hown.alloc _) hb3
          have hbw3 : Below W.heap.size W w3 := below_more (hb2.alloc hsz _) hb3
          have hap4 : some b4 ≠ u3.ownBlock := fun e => by have := (hown.lt b4 e.symm).2; omega
          have hap5 : some wr.heap.size ≠ u3.ownBlock := fun e => by have := (hown.lt _ e.symm).2; omega
          have D : InsC w3 wr.heap.size 0 x := insC_keeps _ _ _ _ _ hb3 ⟨by simp, by simp, by simp, by simp, by simp⟩
          have HC4 : Hid (∀ j y, ks[j]? = some y → w3.cell? ⟨b4, off4 + j, none⟩ = some (.int .i64 y)) := fun j y hj => by
            have := hc4 j y hj; unfold IntC at this; rwa [Nat.mul_one] at this
          clear hc4 hb3 hown hb2 c0 c1 c2 c3 c4 g1 g2
          generalize wr.heap.size = B7 at D hap5 hsz hb4 ⊢
          generalize hg0 : u3.ownBlock = g0' at hap4 hap5
          go_loopw [3, 8] (fun u i wr => ∃ (m : Nat) (E : List Evt), m ≤ ks.length ∧ i = .int .i64 m ∧ Hid (evsT T 0 = E ++ (evsK k j x (ks.drop m) ++ R2)) ∧ E.length ≤ 24 * k + 2 * j + m ∧ wr.ownsRow W.heap.size 124 9 u E.length (E.flatMap ev9) ∧ Aw w3 wr g0' u ∧ Below W.heap.size W wr) (fun _ i _ => ks.length - (intOf i).toNat)
          case atStart => exact ⟨0, E2, Nat.zero_le _, rfl, HN2.out, by omega, hown3, hg0 ▸ Aw.refl _ _, hbw3⟩
          case round =>
            obtain ⟨m, E3, hm, rfl, hn, hE3, hown, haw, hb⟩ := hrel
            clear hown3 hbw3 HN2 hg0 hE2
            have hsz3 := hb.size
            by_cases hlt3 : m < ks.length
            · obtain ⟨y, hy⟩ := get_of_lt hlt3
              obtain rfl := ha4 (ne_nil hlt3)
              have c0 := haw.cell (HC4.out m y hy) hap4
              have d0 := haw.cell D.c0 hap5
              have d1 := haw.cell D.c1 hap5
              have d2 := haw.cell D.c2 hap5
              have d3 := haw.cell D.c3 hap5
              have d4 := haw.cell D.c4 hap5
              rw [Nat.zero_add] at d1 d2 d3 d4
              have hl0 := World.block_lt_of_cell? _ _ c0
              have hl1 := World.block_lt_of_cell? _ _ d0
              have HN3 : Hid (evsT T 0 = (E3 ++ [evOf k j y x]) ++ (evsK k j x (ks.drop (m + 1)) ++ R2)) := hn.out.trans (by rw [drop_cons hy, evsK_cons]; simp)
              have HAW : Hid (Aw w3 wr g0' u3) := haw
              clear hn haw hy ha4
              go_wp2_with fail
              have hmI : (m : Int) < (ks.length : Int) := by omega
              go_region_law (refine step_append_new _ rfl (.tmp 43) (.tmp 54) 81 rfl W.heap.size 124 i0 (.agg #[.int .i64 0, .int .i64 0, .int .i64 0, .int .i64 0, .int .i64 0, .int .i64 0, .int .i64 0, .int .i64 0, .int .i64 0]) 9 72 Tryz.underlying81 HI.out.1 HI.out.2.1 HI.out.2.2.1 HI.out.2.2.2 rfl (by decide) u3 E3.length (E3.flatMap ev9) (by simp [Act.eval]) (hown.drew.alloc _) (some ⟨wr.heap.size, 0, none⟩) 1 1 (ev9 (evOf k j y x)) (by simp [Act.eval]) (fun h => by cases h) rfl (fun ad had => by cases had; exact new_many rfl) (by simp [ev9, Value.oneCell']) (by unfold maxLen; omega) (by omega) (by simp; omega) ?_; intro u' w1 hown' hgrow hap')
              all_goals
                have hb' : Below W.heap.size W w1 := Below.grown ((hb.alloc hsz3 _).drew) hgrow (by simp; omega) (fun kk e => (hown.lt kk e).1)
                have haw' : Hid (Aw w3 w1 g0' u') := (HAW.out.below ((below_alloc _ _).drew)).grown hgrow (by simpa using hap')
                have HO : Hid (w1.ownsRow W.heap.size 124 9 u' (E3 ++ [evOf k j y x]).length ((E3 ++ [evOf k j y x]).flatMap ev9)) := own_snocF hown' rfl
                clear hgrow hown hap' HAW hown' c0 d0 d1 d2 d3 d4 hl0 hl1 hb
                go_wp2_with fail
                go_roundw
                case measure => simp [intOf]; omega
                case rel => exact ⟨m + 1, _, by omega, by go_num, HN3.out, by simp; omega, HO.out, haw'.out, hb'⟩
            · have HM : Hid (evsT T 0 = E3 ++ (evsI k (l.drop (j + 1)) (j + 1) ++ R)) := hn.out.trans (by rw [drop_nil hlt3, HR2.out]; rfl)
              clear hn haw HC4
              go_wp2_with fail
              go_roundw
              case measure => simp [intOf]; omega
              case rel => exact ⟨j + 1, E3, by omega, by go_num, HM.out, by omega, hown, hb⟩
        · have HM : Hid (evsT T 0 = E2 ++ evsT (T.drop (k + 1)) (k + 1)) := hn.out.trans (by rw [drop_nil hlt2, HR.out]; rfl)
          clear hn
          go_wp2_with fail
          go_roundw
          case measure => simp [intOf]; omega
          case rel => exact ⟨k + 1, E2, by omega, by go_num, HM.out, by omega, hown, hb2⟩
    · have HM : Hid (evsT T 0 = E) := hn.out.trans (by rw [drop_nil hlt]; simp [evsT])
      clear hn htc hta ht
      go_wp2_with fail
      go_ret
      exact ⟨_, rfl, by rw [HM.out]; exact owns_ev9 hown, below_more hbW hb⟩

end Go.Proofs.YtomijmikkbhgmaaGreat
