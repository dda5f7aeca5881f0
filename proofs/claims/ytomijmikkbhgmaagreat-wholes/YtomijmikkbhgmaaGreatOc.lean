import Derived.Test.YtomijmikkbhgmaaGreatT8
import Derived.Deep.RegionWith
namespace Go.Proofs.YtomijmikkbhgmaaGreat
open Go.RowKit

theorem flat_allF_len (acc : List (List Int)) (os : List (List Int)) : (acc.flatMap fun a => (allF os).map fun r => a ++ r).length = acc.length * plen os := by
  rw [flat_length _ (plen os) acc (fun a _ => by rw [List.length_map, allF_len])]

/-- One read more: each way so far with each of what it may read from. -/
def grow (O : List Int) (acc : List (List Int)) : List (List Int) := acc.flatMap fun a => O.map fun y => a ++ [y]

theorem grow_take {acc : List (List Int)} {j : Nat} {a : List Int} (h : acc[j]? = some a) (O : List Int) : grow O (acc.take (j + 1)) = grow O (acc.take j) ++ O.map fun y => a ++ [y] := by
  unfold grow; rw [take_snoc h, List.flatMap_append]; simp

theorem grow_mem {O : List Int} {acc : List (List Int)} {i : Nat} (h : ∀ a ∈ acc, a.length ≤ i) : ∀ a ∈ grow O acc, a.length ≤ i + 1 := by
  intro a ha
  obtain ⟨b, hb, hx⟩ := List.mem_flatMap.1 ha
  obtain ⟨y, _, rfl⟩ := List.mem_map.1 hx
  have := h b hb
  simp; omega

theorem lst_one (w : World) (t : TypeId) : SlAt (w.alloc (.cells #[.slice none 0 0] t)) 1 LC (.slice (some ⟨w.heap.size, 0, none⟩) 1 1) [[]] (some ⟨w.heap.size, 0, none⟩) w.heap.size 0 1 :=
  ⟨rfl, fun _ => rfl, fun h => by simp at h, fun k x h => by
    match k, h with
    | 0, h => simp at h; subst h; exact ⟨.slice none 0 0, by simp, (intAt_nil _ 0).at'⟩⟩

theorem own_of_ll {w : World} {base : Nat} {V : Value} {L : List (List Int)} {vs : List Value} (h : LL w base V L vs) (n : Nat) (hn : L.length = n) : w.ownsRow base 26 1 V n vs := hn ▸ h.own

set_option maxHeartbeats 4000000 in
theorem froms_any (E : List Evt) (hE : E.length ≤ 96) (v : Value) (w : World) (h : Ev9At w v E) (hP : plen (rdo E E) ≤ 2000) :
    Calls Tryz.prog 128 #[v] w fun e w' => ∃ u, e = .returned u ∧ LstAt w' u (allF (rdo E E)) ∧ Below w.heap.size w w' := by
  have HE : Hid (Ev9At w v E) := h
  obtain ⟨ao, b, off, cap, hv, ha, _, hc⟩ := h
  subst hv
  obtain ⟨i0, hi, hz0, hz1, hz2⟩ := info_parts Tryz.infoInts
  have HI : Hid (Tryz.prog.info? 26 = some i0 ∧ i0.zero = some (.slice none 0 0) ∧ i0.size = 1 ∧ i0.bytes = 24) := ⟨hi, hz0, hz1, hz2⟩
  clear hi hz0 hz1 hz2
  have HC : Hid (∀ k x, E[k]? = some x → Ev9C w b (off + k * 9) x) := hc
  have HA : Hid (E ≠ [] → ao = some ⟨b, off, none⟩) := ha
  clear hc ha
  have hrl := rdsX_len E 0
  have HRG : Hid (∀ p ∈ rdsX E 0, E[p.1]? = some p.2) := fun p hp => by have := (rdsX_get hp).2; simpa using this
  have HRO : Hid (rdo E E = (rdsX E 0).map fun p => -1 :: wrs E 0 p.2.loc) := rdo_eq E E 0
  have HPL : Hid (plen (rdo E E) ≤ 2000) := hP
  generalize hF : allF (rdo E E) = F
  have HF : Hid (allF (rdo E E) = F) := hF
  have HFL : Hid (F.length ≤ 2000) := by unfold Hid; rw [← hF, allF_len]; exact hP
  clear hF hP
  have HRI : Hid (rdsI E 0 = (rdsX E 0).map fun p => (p.1 : Int)) := rfl
  generalize hPP : rdsX E 0 = P at hrl HRG HRO HRI
  clear hPP
  go_enter Tryz.func128, Tryz.ntmps128
  go_wp2_with fail
  refine (reads_any E hE _ _ (HE.out.keep (below_alloc _ _))).mono ?_
  rw [HRI.out]
  rintro e w3 ⟨u4, rfl, hu4, hb3⟩
  obtain ⟨ao4, b4, off4, cap4, hs4, _⟩ := hu4
  have hv4 := hs4.hv
  rw [List.length_map] at hv4
  subst hv4
  have HS4 : Hid (SlAt w3 1 IntC (.slice ao4 P.length cap4) (P.map fun p => (p.1 : Int)) ao4 b4 off4 cap4) := hs4
  have HA0 : Hid (SlAt w3 1 LC (.slice (some ⟨w.heap.size, 0, none⟩) 1 1) [[]] (some ⟨w.heap.size, 0, none⟩) w.heap.size 0 1) := (lst_one w 26).keep lc_keeps hb3
  have hbw3 := below_more (below_alloc _ _) hb3
  clear hb3 hs4
  go_wp2_with fail
  go_loopw [3, 5] (fun va i wr => ∃ (k : Nat) (acc : List (List Int)) (aoA : Option Addr) (bA offA capA : Nat), k ≤ P.length ∧ i = .int .i64 k ∧ va = .slice aoA acc.length capA ∧ SlAt wr 1 LC va acc aoA bA offA capA ∧ Hid (F = acc.flatMap fun a => (allF ((P.drop k).map fun p => -1 :: wrs E 0 p.2.loc)).map fun r => a ++ r) ∧ Hid (∀ a ∈ acc, a.length ≤ k) ∧ Below w3.heap.size w3 wr) (fun _ i _ => P.length - (intOf i).toNat)
  case atStart =>
    refine ⟨0, [[]], _, _, _, _, Nat.zero_le _, rfl, rfl, HA0.out, ?_, ?_, Below.refl _ _⟩
    · unfold Hid; rw [← HF.out, HRO.out, List.drop_zero]; simp
    · intro a ha; simp at ha; subst ha; simp
  case round =>
    obtain ⟨k, acc, aoA, bA, offA, capA, hk, rfl, rfl, hsA, hn, hmem, hb⟩ := hrel
    clear HA0
    have HSA : Hid (SlAt wr 1 LC (.slice aoA acc.length capA) acc aoA bA offA capA) := hsA
    have hbr := below_more hbw3 hb
    clear hsA
    by_cases hlt : k < P.length
    · obtain ⟨p, hp⟩ := get_of_lt hlt
      have hEx := HRG.out p (List.mem_of_getElem? hp)
      have hEk : p.1 < E.length := (List.getElem?_eq_some_iff.1 hEx).1
      obtain rfl := HA.out (ne_nil hEk)
      obtain ⟨_, _, _, d3, _, _, _, _, _⟩ := ev9C_keeps _ _ _ _ _ hbr (HC.out p.1 p.2 hEx)
      have hal : acc.length ≤ 2000 := by
        have h1 := congrArg List.length hn.out
        rw [flat_allF_len] at h1
        have h2 := HFL.out
        have h3 : 1 ≤ plen ((P.drop k).map fun p => -1 :: wrs E 0 p.2.loc) := plen_pos (fun o ho => by obtain ⟨q, _, rfl⟩ := List.mem_map.1 ho; simp)
        have := Nat.le_mul_of_pos_right acc.length h3
        omega
      have c0 := intC_keeps _ _ _ _ _ hb (HS4.out.hc k (p.1 : Int) (by rw [List.getElem?_map, hp]; rfl))
      unfold IntC at c0
      rw [Nat.mul_one] at c0
      have ha4 := HS4.out.ha (by intro h0; have := congrArg List.length h0; simp at this; subst this; simp at hlt)
      have hbl0 := World.block_lt_of_cell? _ _ c0
      have hbl3 := World.block_lt_of_cell? _ _ d3
      have HN : Hid (F = acc.flatMap fun a => (allF ((-1 :: wrs E 0 p.2.loc) :: ((P.drop (k + 1)).map fun p => -1 :: wrs E 0 p.2.loc))).map fun r => a ++ r) := hn.out.trans (by rw [drop_cons hp]; rfl)
      have hpI : (p.1 : Int) < (E.length : Int) := by omega
      have hkI : (k : Int) < (P.length : Int) := by omega
      subst ha4
      have hwl := wrs_len E 0 p.2.loc
      generalize hW : wrs E 0 p.2.loc = W at HN hwl
      have HW : Hid (wrs E 0 p.2.loc = W) := hW
      clear hn hp hW hEx
      go_wp2_with fail
      refine (writesR_any E hE p.2.loc _ _ (HE.out.keep hbr)).mono ?_
      rw [HW.out]
      rintro e w4 ⟨u6, rfl, hu6, hb4⟩
      obtain ⟨ao6, b6, off6, cap6, hs6, _⟩ := hu6
      have hv6 := hs6.hv
      subst hv6
      have HS6 : Hid (SlAt w4 1 IntC (.slice ao6 W.length cap6) W ao6 b6 off6 cap6) := hs6
      have HSA4 : Hid (SlAt w4 1 LC (.slice aoA acc.length capA) acc aoA bA offA capA) := HSA.out.keep lc_keeps hb4
      have HB4 : Hid (Below w3.heap.size w3 w4) := hb.trans (hb4.mono hb.size)
      clear hs6 hb4 c0 d3 hbr hb hbl0 hbl3 HSA
      go_wp2_with fail
      go_loopw [7, 8] (fun vm i wr => ∃ (j : Nat) (M : List (List Int)) (aoM : Option Addr) (capM : Nat) (vs : List Value), j ≤ acc.length ∧ i = .int .i64 j ∧ vm = .slice aoM M.length capM ∧ Hid (M = grow (-1 :: W) (acc.take j)) ∧ M.length ≤ 97 * j ∧ LL wr w4.heap.size (.slice aoM M.length capM) M vs ∧ Below w4.heap.size w4 wr) (fun _ i _ => acc.length - (intOf i).toNat)
      case atStart => exact ⟨0, [], none, 0, [], Nat.zero_le _, rfl, rfl, rfl, by simp, LL.nil _ _, Below.refl _ _⟩
      case round =>
        obtain ⟨j, M, aoM, capM, vs, hj, rfl, rfl, hM, hMl, hLL, hb⟩ := hrel
        have hsz := hb.size
        have HLL : Hid (LL wr w4.heap.size (.slice aoM M.length capM) M vs) := hLL
        clear hLL
        by_cases hlt2 : j < acc.length
        · obtain ⟨a, ha⟩ := get_of_lt hlt2
          obtain ⟨ua, c0, ia⟩ := lc_keeps _ _ _ _ _ hb (HSA4.out.hc j a ha)
          rw [Nat.mul_one] at c0
          have haA := HSA4.out.ha (ne_nil hlt2)
          subst haA
          have hal96 : a.length ≤ 96 := by have := hmem.out a (List.mem_of_getElem? ha); omega
          have HIA : Hid (IntAt wr ua a) := ia
          have HAJ : Hid (acc[j]? = some a) := ha
          have hjI : (j : Int) < (acc.length : Int) := by omega
          have hblA := World.block_lt_of_cell? _ _ c0
          clear ia ha
          go_wp2_with fail
          refine (longer_any a (by omega) (-1) ua _ HIA.out).mono ?_
          generalize hy9 : a ++ [-1] = y9
          have HY9 : Hid (a ++ [-1] = y9) := hy9
          clear hy9
          rintro e w5 ⟨u9, rfl, hu9, hb5⟩
          obtain ⟨ao9, cap9, hf9⟩ := hu9.1.at'.form
          subst hf9
          have HLL5 : Hid (LL w5 w4.heap.size (.slice aoM M.length capM) M vs) := HLL.out.keep hb5
          have hs5 := hb5.size
          have HU9 : Hid (IntCap w5 (.slice ao9 y9.length cap9) y9 ∧ ∀ g, (Value.slice ao9 y9.length cap9).ownBlock = some g → w4.heap.size ≤ g ∧ g < w5.heap.size ∧ (Value.slice aoM M.length capM).ownBlock ≠ some g) :=
            ⟨hu9.1.cap, fun g hg => ⟨by have := (hu9.2 g hg).1; omega, (hu9.2 g hg).2, fun e => by have := (HLL.out.own.lt g e).2; have := (hu9.2 g hg).1; omega⟩⟩
          have HB5 : Hid (Below w4.heap.size w4 w5) := hb.trans (hb5.mono hsz)
          clear hu9 hb5 c0 HLL hb
          go_wp2_with (at_builtin; refine append_new _ rfl (.tmp 41) (.tmp 43) 27 rfl w4.heap.size 26 i0 (.slice none 0 0) 1 24 Tryz.underlying27 HI.out.1 HI.out.2.1 HI.out.2.2.1 HI.out.2.2.2 rfl (by decide) (.slice aoM M.length capM) M.length vs rfl (HLL5.out.own.alloc _) (some ⟨w5.heap.size, 0, none⟩) 1 1 [.slice ao9 y9.length cap9] rfl (fun h => by cases h) rfl (fun ad had => by cases had; exact new_one rfl) (by simp [Value.oneCell']) (by unfold maxLen; omega) (by omega) (by simp; omega) ?_)
          intro V6 w6 hown6 hgrow6 hap6
          obtain ⟨ao7, cap7, hf7, _⟩ := own_form hown6
          have hap7 : ∀ g, V6.ownBlock = some g → (Value.slice aoM M.length capM).ownBlock = some g ∨ w5.heap.size + 1 ≤ g := by simpa using hap6
          have HLL6 : Hid (LL w6 w4.heap.size V6 (M ++ [y9]) (vs ++ [.slice ao9 y9.length cap9])) := HLL5.out.snoc HU9.out.1 HU9.out.2 hown6 hgrow6 hap7
          have HB6 : Hid (Below w4.heap.size w4 w6) := Below.grown (HB5.out.alloc HB5.out.size _) hgrow6 (by simp; omega) (fun kk e => (HLL5.out.own.lt kk e).1)
          have HM6 : Hid (M ++ [y9] = grow (-1 :: W) (acc.take j) ++ ((-1 :: W).take 1).map fun y => a ++ [y]) := by unfold Hid; rw [← HY9.out, hM.out]; rfl
          have hM6 : (M ++ [y9]).length ≤ 97 * j + 1 := by simp; omega
          have hf8 : (M ++ [y9]).length = M.length + 1 := by simp
          rw [← hf8] at hf7
          generalize M ++ [y9] = M1 at HLL6 HM6 hM6 hf7
          subst hf7
          clear hown6 hgrow6 hap6 hap7 HLL5 HU9 HB5 hf8
          clear HIA hblA
          generalize hG : grow (-1 :: W) (acc.take j) = G at HM6
          have HG : Hid (grow (-1 :: W) (acc.take j) = G) := hG
          clear hG hM
          go_wp2_with fail
          go_loopw [7, 10] (fun vm i wr => ∃ (m : Nat) (M : List (List Int)) (aoM : Option Addr) (capM : Nat) (vs : List Value), m ≤ W.length ∧ i = .int .i64 m ∧ vm = .slice aoM M.length capM ∧ Hid (M = G ++ ((-1 :: W).take (m + 1)).map fun y => a ++ [y]) ∧ M.length ≤ 97 * j + 1 + m ∧ LL wr w4.heap.size (.slice aoM M.length capM) M vs ∧ Below w4.heap.size w4 wr) (fun _ i _ => W.length - (intOf i).toNat)
          case atStart => exact ⟨0, M1, ao7, cap7, _, Nat.zero_le _, rfl, rfl, HM6.out, by omega, HLL6.out, HB6.out⟩
          case round =>
            clear HLL6 HB6 HM6 hM6
            obtain ⟨m, M2, aoM2, capM2, vs2, hm, rfl, rfl, hM2, hM2l, hLL2, hb⟩ := hrel
            have hsz2 := hb.size
            have HLL : Hid (LL wr w4.heap.size (.slice aoM2 M2.length capM2) M2 vs2) := hLL2
            clear hLL2
            by_cases hlt3 : m < W.length
            · obtain ⟨y, hy⟩ := get_of_lt hlt3
              obtain ⟨ua2, c0, ia⟩ := lc_keeps _ _ _ _ _ hb (HSA4.out.hc j a HAJ.out)
              rw [Nat.mul_one] at c0
              have HIA : Hid (IntAt wr ua2 a) := ia
              have d0 := intC_keeps _ _ _ _ _ hb (HS6.out.hc m y hy)
              unfold IntC at d0
              rw [Nat.mul_one] at d0
              have ha6 := HS6.out.ha (ne_nil hlt3)
              subst ha6
              have HMN : Hid (M2 ++ [a ++ [y]] = G ++ ((-1 :: W).take (m + 1 + 1)).map fun y => a ++ [y]) := by
                unfold Hid
                rw [hM2.out, take_snoc (l := -1 :: W) (k := m + 1) (x := y) (by simpa using hy)]
                simp
              have hmI : (m : Int) < (W.length : Int) := by omega
              generalize hy9 : a ++ [y] = y8 at HMN
              have HY8 : Hid (a ++ [y] = y8) := hy9
              clear ia hy hM2 hy9
              go_wp2_with fail
              go_region_with (go_at_call 159; refine (longer_any a (by omega) y ua2 _ (HIA.out.keep (Below.refl _ _).drew)).mono ?_; rw [HY8.out]; rintro e w7 ⟨u9, rfl, hu9, hb7⟩)
              all_goals
                obtain ⟨ao9, cap9, hf9⟩ := hu9.1.at'.form
                subst hf9
                have hb7' : Below wr.heap.size wr w7 := (Below.refl _ _).drew.trans hb7
                have HLL5 : Hid (LL w7 w4.heap.size (.slice aoM2 M2.length capM2) M2 vs2) := HLL.out.keep hb7'
                have hs5 := hb7'.size
                have HU9 : Hid (IntCap w7 (.slice ao9 y8.length cap9) y8 ∧ ∀ g, (Value.slice ao9 y8.length cap9).ownBlock = some g → w4.heap.size ≤ g ∧ g < w7.heap.size ∧ (Value.slice aoM2 M2.length capM2).ownBlock ≠ some g) :=
                  ⟨hu9.1.cap, fun g hg => ⟨by have h1 : wr.heap.size ≤ g := (hu9.2 g hg).1; omega, (hu9.2 g hg).2, fun e => by have := (HLL.out.own.lt g e).2; have h1 : wr.heap.size ≤ g := (hu9.2 g hg).1; omega⟩⟩
                have HB7 : Hid (Below w4.heap.size w4 w7) := hb.trans (hb7'.mono hsz2)
                clear hu9 hb7 hb7' c0 d0 HLL hb HIA
                go_wp2_with (at_builtin; refine append_new _ rfl (.tmp 60) (.tmp 62) 27 rfl w4.heap.size 26 i0 (.slice none 0 0) 1 24 Tryz.underlying27 HI.out.1 HI.out.2.1 HI.out.2.2.1 HI.out.2.2.2 rfl (by decide) (.slice aoM2 M2.length capM2) M2.length vs2 rfl (HLL5.out.own.alloc _) (some ⟨w7.heap.size, 0, none⟩) 1 1 [.slice ao9 y8.length cap9] rfl (fun h => by cases h) rfl (fun ad had => by cases had; exact new_one rfl) (by simp [Value.oneCell']) (by unfold maxLen; omega) (by omega) (by simp; omega) ?_)
                intro V8 w8 hown8 hgrow8 hap8
                obtain ⟨ao8, cap8, hf8, _⟩ := own_form hown8
                have hap9 : ∀ g, V8.ownBlock = some g → (Value.slice aoM2 M2.length capM2).ownBlock = some g ∨ w7.heap.size + 1 ≤ g := by simpa using hap8
                have HLL8 : Hid (LL w8 w4.heap.size V8 (M2 ++ [y8]) (vs2 ++ [.slice ao9 y8.length cap9])) := HLL5.out.snoc HU9.out.1 HU9.out.2 hown8 hgrow8 hap9
                have HB8 : Hid (Below w4.heap.size w4 w8) := Below.grown (HB7.out.alloc HB7.out.size _) hgrow8 (by simp; omega) (fun kk e => (HLL5.out.own.lt kk e).1)
                have hM8 : (M2 ++ [y8]).length ≤ 97 * j + 1 + (m + 1) := by simp; omega
                have hf10 : (M2 ++ [y8]).length = M2.length + 1 := by simp
                rw [← hf10] at hf8
                generalize M2 ++ [y8] = M3 at HLL8 HMN hM8 hf8
                subst hf8
                clear hown8 hgrow8 hap8 hap9 HLL5 HU9 HB7 hf10
                go_wp2_with fail
                go_roundw
                case measure => simp [intOf]; omega
                case rel => exact ⟨m + 1, M3, ao8, cap8, _, by omega, by go_num, rfl, HMN.out, by omega, HLL8.out, HB8.out⟩
            · have hmW : m = W.length := by omega
              subst hmW
              have HMN : Hid (M2 = grow (-1 :: W) (acc.take (j + 1))) := by
                unfold Hid
                rw [hM2.out, grow_take HAJ.out, HG.out, List.take_of_length_le (by simp)]
              clear hM2
              go_wp2_with fail
              go_roundw
              case measure => simp [intOf]; omega
              case rel => exact ⟨j + 1, M2, aoM2, capM2, vs2, by omega, by go_num, rfl, HMN.out, by omega, HLL.out, hb⟩
        · have HMM : Hid (M = grow (-1 :: W) acc) := hM.out.trans (by rw [List.take_of_length_le (by omega)])
          have HFN : Hid (F = M.flatMap fun a => (allF ((P.drop (k + 1)).map fun p => -1 :: wrs E 0 p.2.loc)).map fun r => a ++ r) := HN.out.trans (by rw [allF_step, HMM.out]; rfl)
          have HME : Hid (∀ a ∈ M, a.length ≤ k + 1) := by unfold Hid; rw [HMM.out]; exact grow_mem hmem.out
          obtain ⟨aoN, bN, offN, capN, hsN⟩ := HLL.out.read.at'
          have hvN := hsN.hv
          simp only [Value.slice.injEq] at hvN
          obtain ⟨rfl, -, rfl⟩ := hvN
          have HSN : Hid (SlAt wr 1 LC (.slice aoM M.length capM) M aoM bN offN capM) := hsN
          have HBN : Hid (Below w3.heap.size w3 wr) := HB4.out.trans (hb.mono HB4.out.size)
          clear hsN hM hmem
          go_wp2_with fail
          go_roundw
          case measure => simp [intOf]; omega
          case rel => exact ⟨k + 1, M, aoM, bN, offN, capM, by omega, by go_num, rfl, HSN.out, HFN.out, HME.out, HBN.out⟩
    · have HFF : Hid (F = acc) := hn.out.trans (by rw [drop_nil hlt]; exact allF_done acc)
      clear hn
      go_wp2_with fail
      go_ret
      exact ⟨_, rfl, by rw [HFF.out]; exact ⟨_, _, _, _, HSA.out⟩, hbr⟩

end Go.Proofs.YtomijmikkbhgmaaGreat
