import Derived.Test.YtomijmikkbhgmaaGreatT16
import Derived.Test.YtomijmikkbhgmaaGreatT19
import Derived.Deep.RegionWith
namespace Go.Proofs.YtomijmikkbhgmaaGreat
open Go.RowKit

theorem ret_two {a b c d : Int} (h1 : a = c) (h2 : b = d) : Ending.returned (.tuple #[.int .i64 a, .int .i64 b]) = .returned (.tuple #[.int .i64 c, .int .i64 d]) := by rw [h1, h2]

set_option maxHeartbeats 4000000 in
theorem checkR_any (T : List (List Ins)) (fa : Bool) (c : List Atm) (v vt vc : Value) (w : World) (h : TestAt w v T fa c vt vc) :
    Calls Tryz.prog 45 #[v] w fun e w' => e = .returned (.tuple #[.int .i64 (chk T c).1, .int .i64 (chk T c).2]) ∧ Below w.heap.size w w' := by
  have HT : Hid (TestAt w v T fa c vt vc) := h
  obtain ⟨hv, ht, ⟨hc0, ao', b', off', cap', hcv, hca, _, hcc⟩⟩ := h
  obtain ⟨ht0, ao, b, off, cap, htv, hta, _, htc⟩ := ht.opened
  subst hv htv hcv
  generalize hq : chk T c = q
  have HQ : Hid (chk T c = q) := hq
  clear hq ht
  have HTC : Hid (∀ k l, T[k]? = some l → b < w.heap.size ∧ ∃ ao' cap', w.cell? ⟨b, off + k, none⟩ = some (.slice ao' l.length cap') ∧ InsAt w (.slice ao' l.length cap') l) := htc
  have HCC : Hid (∀ k x, c[k]? = some x → AtmC w b' (off' + k * 3) x) := hcc
  have HTA : Hid (T ≠ [] → ao = some ⟨b, off, none⟩) := hta
  have HCA : Hid (c ≠ [] → ao' = some ⟨b', off', none⟩) := hca
  clear htc hcc hta hca
  go_enter Tryz.func45, Tryz.ntmps45
  go_wp2_with fail
  have hbox := boxed w (.slice ao T.length cap) (.slice ao' c.length cap') fa 25
  generalize w.alloc (.cells #[.slice ao T.length cap, .bool fa, .slice ao' c.length cap'] 25) = W at hbox ⊢
  obtain ⟨hbW, _, g0, g1, g2⟩ := hbox
  refine (sizes_any T fa c _ _ _ _ (HT.out.keep hbW)).mono ?_
  rintro e w3 ⟨rfl, hb3⟩
  have hbw3 := below_more hbW hb3
  replace g0 := keep_cell hb3 g0
  replace g1 := keep_cell hb3 g1
  replace g2 := keep_cell hb3 g2
  clear hb3
  cases hs : sizeB T c
  · have HF : Hid (q = (1, 0)) := HQ.out.symm.trans (chk_size hs)
    clear HQ hs
    go_wp2_with fail
    go_ret2
    exact ⟨by rw [HF.out]; rfl, hbw3⟩
  · obtain ⟨h2, hL, hc6⟩ := sizeB_parts hs
    have HSZ : Hid (sizeB T c = true) := hs
    have HL : Hid (lensB T = true) := hL
    clear hs hL hbW
    go_wp2_with fail
    go_loopw [5] (fun i wr => ∃ k : Nat, k ≤ T.length ∧ i = .int .i64 k ∧ Hid (insF T 0 = insF (T.drop k) k) ∧ Below w3.heap.size w3 wr) (fun i _ => T.length - (intOf i).toNat)
    case atStart => exact ⟨0, Nat.zero_le _, rfl, rfl, Below.refl _ _⟩
    case round =>
      obtain ⟨k, hk, rfl, hn, hb⟩ := hrel
      have e0 := keep_cell hb g0
      have e1 := keep_cell hb g1
      have e2 := keep_cell hb g2
      have hbr := below_more hbw3 hb
      by_cases hlt : k < T.length
      · obtain ⟨l, hx⟩ := get_of_lt hlt
        obtain ⟨hbl, ao2, cap2, c0, hil⟩ := HTC.out k l hx
        obtain rfl := HTA.out (ne_nil hlt)
        have hl12 := lensB_get HL.out hx
        have HN : Hid (insF T 0 = insF (l :: T.drop (k + 1)) k) := by rw [← drop_cons hx]; exact hn
        have HC0 : Hid (w.cell? ⟨b, off + k, none⟩ = some (.slice ao2 l.length cap2)) := c0
        have HIL : Hid (InsAt w (.slice ao2 l.length cap2) l) := hil
        clear hx hn hil c0
        go_wp2_with fail
        go_loopw [6] (fun i w2 => ∃ j : Nat, j ≤ l.length ∧ i = .int .i64 j ∧ Hid (badAt l 0 = badAt (l.drop j) j) ∧ Below w3.heap.size w3 w2) (fun i _ => l.length - (intOf i).toNat)
        case atStart => exact ⟨0, Nat.zero_le _, rfl, rfl, hb⟩
        case round =>
          clear hb e0 e1 e2 hbr
          obtain ⟨j, hj, rfl, hn, hb2⟩ := hrel
          have e0 := keep_cell hb2 g0
          have hbr := below_more hbw3 hb2
          have c1 := keep_cell hbr HC0.out
          have l1 := World.block_lt_of_cell? _ _ c1
          have l2 := World.block_lt_of_cell? _ _ e0
          by_cases hlt2 : j < l.length
          · obtain ⟨x, hx⟩ := get_of_lt hlt2
            obtain ⟨_, ao3, b3, off3, cap3, hv3, ha3, _, hc3⟩ := HIL.out
            obtain ⟨d0, d1, d2, d3, d4⟩ := insC_keeps _ _ _ _ _ hbr (hc3 j x hx)
            have HN2 : Hid (badAt l 0 = badAt (x :: l.drop (j + 1)) j) := by rw [← drop_cons hx]; exact hn
            simp only [Value.slice.injEq] at hv3
            obtain ⟨e5, _, e3⟩ := hv3
            rw [ha3 (ne_nil hlt2)] at e5
            subst e5
            clear hn hc3 ha3 e3 hx
            cases hm : mayB x
            · have HF : Hid (q = (2, ((100 * k + j : Nat) : Int))) := HQ.out.symm.trans (chk_ins HSZ.out (HN.out.trans (insF_bad (HN2.out.trans (badAt_bad hm _ _)) _ _)))
              go_wp2_with (go_at_call 89; refine (fits_any x _).mono ?_; rw [hm]; rintro e w5 ⟨rfl, hb5⟩)
              go_ret2
              exact ⟨by rw [HF.out]; exact ret_two rfl (by simp), below_more hbr hb5⟩
            · go_wp2_with (go_at_call 89; refine (fits_any x _).mono ?_; rw [hm]; rintro e w5 ⟨rfl, hb5⟩)
              go_roundw
              case measure => simp [intOf]; omega
              case rel => exact ⟨j + 1, by omega, by go_num, HN2.out.trans (badAt_ok hm _ _), below_more hb2 hb5⟩
          · have HF : Hid (insF T 0 = insF (T.drop (k + 1)) (k + 1)) := HN.out.trans (insF_ok (hn.out.trans (by rw [drop_nil hlt2]; rfl)) _ _)
            clear hn
            go_wp2_with fail
            go_roundw
            case measure => simp [intOf]; omega
            case rel => exact ⟨k + 1, by omega, by go_num, HF.out, hb2⟩
      · have HIN : Hid (insF T 0 = none) := by rw [hn, drop_nil hlt]; rfl
        clear hn
        go_wp2_with fail
        go_loopw [7] (fun i wr => ∃ k : Nat, k ≤ T.length ∧ i = .int .i64 k ∧ Hid (nstF T 0 = nstF (T.drop k) k) ∧ Below w3.heap.size w3 wr) (fun i _ => T.length - (intOf i).toNat)
        case atStart => exact ⟨0, Nat.zero_le _, rfl, rfl, hb⟩
        case round =>
          clear hb e0 e1 e2 hbr hlt hk
          obtain ⟨k, hk, rfl, hn, hb⟩ := hrel
          have e0 := keep_cell hb g0
          have e1 := keep_cell hb g1
          have e2 := keep_cell hb g2
          have hbr := below_more hbw3 hb
          by_cases hlt : k < T.length
          · obtain ⟨l, hx⟩ := get_of_lt hlt
            obtain ⟨hbl, ao2, cap2, c0, hil⟩ := HTC.out k l hx
            obtain rfl := HTA.out (ne_nil hlt)
            have hl12 := lensB_get HL.out hx
            have HN : Hid (nstF T 0 = nstF (l :: T.drop (k + 1)) k) := by rw [← drop_cons hx]; exact hn
            have c1 := keep_cell hbr c0
            have l1 := World.block_lt_of_cell? _ _ c1
            have l2 := World.block_lt_of_cell? _ _ e0
            have HIL : Hid (InsAt wr (.slice ao2 l.length cap2) l) := hil.keep hbr
            have hle := nst_le l 0 false
            generalize hp : nst l 0 false = p at hle
            have HP : Hid (nst l 0 false = p) := hp
            clear hx hn hil c0 hp
            by_cases hp0 : 0 ≤ p
            · have HF : Hid (q = (3, 100 * (k : Int) + p)) := HQ.out.symm.trans (chk_nst HSZ.out HIN.out (HN.out.trans ((nstF_bad (by rw [HP.out]; exact hp0) _ _).trans (by rw [HP.out]))))
              go_wp2_with (go_at_call 90; refine (nests_any l _ _ HIL.out hl12).mono ?_; rw [HP.out]; rintro e w5 ⟨rfl, hb5⟩)
              go_ret2
              exact ⟨by rw [HF.out]; rfl, below_more hbr hb5⟩
            · have HF : Hid (nstF T 0 = nstF (T.drop (k + 1)) (k + 1)) := HN.out.trans (nstF_ok (by rw [HP.out]; exact hp0) _ _)
              go_wp2_with (go_at_call 90; refine (nests_any l _ _ HIL.out hl12).mono ?_; rw [HP.out]; rintro e w5 ⟨rfl, hb5⟩)
              go_roundw
              case measure => simp [intOf]; omega
              case rel => exact ⟨k + 1, by omega, by go_num, HF.out, below_more hb hb5⟩
          · have HNS : Hid (nstF T 0 = none) := by rw [hn, drop_nil hlt]; rfl
            clear hn
            go_wp2_with fail
            go_loopw [9] (fun i wr => ∃ k : Nat, k ≤ c.length ∧ i = .int .i64 k ∧ Hid (atmF c 0 T.length = atmF (c.drop k) k T.length) ∧ Below w3.heap.size w3 wr) (fun i _ => c.length - (intOf i).toNat)
            case atStart => exact ⟨0, Nat.zero_le _, rfl, rfl, hb⟩
            case round =>
              clear hb e0 e1 e2 hbr hlt hk
              obtain ⟨k, hk, rfl, hn, hb⟩ := hrel
              have e0 := keep_cell hb g0
              have e1 := keep_cell hb g1
              have e2 := keep_cell hb g2
              have l2 := World.block_lt_of_cell? _ _ e0
              have hbr := below_more hbw3 hb
              by_cases hlt : k < c.length
              · obtain ⟨a, hx⟩ := get_of_lt hlt
                obtain ⟨d0, d1, d2⟩ := atmC_keeps _ _ _ _ _ hbr (HCC.out k a hx)
                have l3 := World.block_lt_of_cell? _ _ d0
                obtain rfl := HCA.out (ne_nil hlt)
                have HN : Hid (atmF c 0 T.length = atmF (a :: c.drop (k + 1)) k T.length) := by rw [← drop_cons hx]; exact hn
                clear hx hn
                have hkI : (k : Int) < (c.length : Int) := by omega
                cases hm : atmB a T.length
                · have HF : Hid (q = (4, (k : Int))) := HQ.out.symm.trans (chk_atm HSZ.out HIN.out HNS.out (HN.out.trans (atmF_bad hm _ _)))
                  go_wp2_with fail
                  go_region_with (go_at_call 91; refine (atom_any a T.length h2 _).mono ?_; rw [hm]; rintro e w5 ⟨rfl, hb5⟩)
                  all_goals
                    go_wp2_with fail
                    go_ret2
                    exact ⟨by rw [HF.out]; rfl, below_more hbr.drew hb5⟩
                · have HF : Hid (atmF c 0 T.length = atmF (c.drop (k + 1)) (k + 1) T.length) := HN.out.trans (atmF_ok hm _ _)
                  go_wp2_with fail
                  go_region_with (go_at_call 91; refine (atom_any a T.length h2 _).mono ?_; rw [hm]; rintro e w5 ⟨rfl, hb5⟩)
                  all_goals
                    go_wp2_with fail
                    go_roundw
                    case measure => simp [intOf]; omega
                    case rel => exact ⟨k + 1, by omega, by go_num, HF.out, below_more hb.drew hb5⟩
              · have HAT : Hid (atmF c 0 T.length = none) := by rw [hn, drop_nil hlt]; rfl
                clear hn
                go_wp2_with fail
                refine (count_any T fa c _ _ _ _ (HT.out.keep hbr) h2 HL.out 5).mono ?_
                rintro e w5 ⟨rfl, hb5⟩
                have hbr5 := below_more hbr hb5
                replace e0 := keep_cell hb5 e0
                replace e1 := keep_cell hb5 e1
                replace e2 := keep_cell hb5 e2
                clear hb5
                go_wp2_with fail
                refine (count_any T fa c _ _ _ _ (HT.out.keep hbr5) h2 HL.out 7).mono ?_
                rintro e w6 ⟨rfl, hb6⟩
                have hbr6 := below_more hbr5 hb6
                replace e0 := keep_cell hb6 e0
                replace e1 := keep_cell hb6 e1
                replace e2 := keep_cell hb6 e2
                clear hb6
                go_wp2_with fail
                refine (events_any T fa c _ _ _ _ (HT.out.keep hbr6) h2 HL.out).mono ?_
                rintro e w7 ⟨u, rfl, hu, hb7⟩
                have hbr7 := below_more hbr6 hb7
                clear hb7 e0 e1 e2
                have hEl : (evsT T 0).length ≤ 96 := by have := evsT_len T 0 HL.out; omega
                go_wp2_with fail
                refine (size_any (evsT T 0) hEl _ _ hu).mono ?_
                rintro e w8 ⟨rfl, hb8⟩
                have hbr8 := below_more hbr7 hb8
                clear hb8 hu hEl
                have HM : Hid (manyB T = (decide (3 < cntO 5 T) || decide (2 < cntO 7 T) || decide (2000 < cap2 (sizeN (evsT T 0))))) := rfl
                generalize cntO 5 T = n1 at HM ⊢
                generalize cntO 7 T = n2 at HM ⊢
                generalize cap2 (sizeN (evsT T 0)) = n3 at HM ⊢
                by_cases h3 : 3 < n1
                · have HF : Hid (q = (5, 0)) := HQ.out.symm.trans (chk_many HSZ.out HIN.out HNS.out HAT.out (HM.out.trans (by simp [h3])))
                  go_wp2_with fail
                  go_ret2
                  exact ⟨by rw [HF.out]; rfl, hbr8⟩
                · by_cases h4 : 2 < n2
                  · have HF : Hid (q = (5, 0)) := HQ.out.symm.trans (chk_many HSZ.out HIN.out HNS.out HAT.out (HM.out.trans (by simp [h4])))
                    go_wp2_with fail
                    go_ret2
                    exact ⟨by rw [HF.out]; rfl, hbr8⟩
                  · by_cases h5 : 2000 < n3
                    · have HF : Hid (q = (5, 0)) := HQ.out.symm.trans (chk_many HSZ.out HIN.out HNS.out HAT.out (HM.out.trans (by simp [h5])))
                      go_wp2_with fail
                      go_ret2
                      exact ⟨by rw [HF.out]; rfl, hbr8⟩
                    · have HF : Hid (q = (0, 0)) := HQ.out.symm.trans (chk_ok HSZ.out HIN.out HNS.out HAT.out (HM.out.trans (by simp [h3, h4, h5])))
                      go_wp2_with fail
                      go_ret2
                      exact ⟨by rw [HF.out]; rfl, hbr8⟩

end Go.Proofs.YtomijmikkbhgmaaGreat
