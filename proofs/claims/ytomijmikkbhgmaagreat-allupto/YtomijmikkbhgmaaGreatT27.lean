import Derived.Test.YtomijmikkbhgmaaGreatT26
import Derived.Deep.RegionLaw
namespace Go.Proofs.YtomijmikkbhgmaaGreat
open Go.RowKit

theorem le_fac (m : Nat) : m ≤ fac m := by
  induction m with
  | zero => exact Nat.zero_le _
  | succ m ih =>
    have := fac_pos m
    unfold fac
    have := Nat.mul_le_mul_left (m + 1) (fac_pos m)
    omega

/-- The orders that begin with one of the first k entries. -/
def ordTo (m : Nat) (l : List Int) (k : Nat) : List (List Int) := (List.range k).flatMap fun i => (ordN m (l.eraseIdx i)).map fun r => l.getD i 0 :: r

theorem ordTo_succ (m : Nat) (l : List Int) (k : Nat) : ordTo m l (k + 1) = ordTo m l k ++ (ordN m (l.eraseIdx k)).map fun r => l.getD k 0 :: r := by
  unfold ordTo; rw [List.range_succ, List.flatMap_append]; simp

theorem ordTo_len (m : Nat) (l : List Int) (h : l.length = m + 1) (k : Nat) (hk : k ≤ l.length) : (ordTo m l k).length = k * fac m := by
  unfold ordTo
  rw [flat_length _ (fac m) _ (fun i hi => ?_), List.length_range]
  have hi' : i < k := by simpa using hi
  rw [List.length_map, ordN_len _ _ (by rw [List.length_eraseIdx, if_pos (by omega)]; omega)]

theorem ordN_mem {m : Nat} {l : List Int} (h : l.length = m) : ∀ y ∈ ordN m l, y.length = m := by
  induction m generalizing l with
  | zero => intro y hy; simp [ordN] at hy; subst hy; rfl
  | succ m ih =>
    intro y hy
    obtain ⟨i, hi, hy⟩ := List.mem_flatMap.1 hy
    obtain ⟨r, hr, rfl⟩ := List.mem_map.1 hy
    have hi' : i < l.length := by simpa using hi
    have := ih (l := l.eraseIdx i) (by rw [List.length_eraseIdx, if_pos hi']; omega) r hr
    simp; omega

set_option maxRecDepth 100000 in
set_option maxHeartbeats 4000000 in
theorem orders_any (m : Nat) : ∀ (l : List Int) (v : Value) (w : World), l.length = m → fac m ≤ 2000 → IntCap w v l →
    Calls Tryz.prog 129 #[v] w fun e w' => ∃ u, e = .returned u ∧ LstNew w.heap.size w' u (ordN m l) ∧ Below w.heap.size w w' := by
  induction m with
  | zero =>
    intro l v w hl _ h
    obtain rfl := List.eq_nil_of_length_eq_zero hl
    obtain ⟨ao, b, off, cap, hs, _⟩ := h
    have hv := hs.hv
    subst hv
    clear hs hl
    go_enter Tryz.func129, Tryz.ntmps129
    go_wp2_with fail
    go_ret
    refine ⟨_, rfl, ?_, below_alloc _ _⟩
    refine ⟨_, w.heap.size, 0, 1, rfl, fun _ => rfl, fun h => by simp at h, Nat.le_refl _, fun k x h => ?_⟩
    match k, h with
    | 0, h => simp [ordN] at h; subst h; exact ⟨.slice none 0 0, by simp, intCap_nil _, fun g hg => by simp [Value.ownBlock] at hg⟩
    | k + 1, h => simp [ordN] at h
  | succ m ih =>
    intro l v w hl hfac h
    have IH : Hid (∀ (l : List Int) (v : Value) (w : World), l.length = m → fac m ≤ 2000 → IntCap w v l → Calls Tryz.prog 129 #[v] w fun e w' => ∃ u, e = .returned u ∧ LstNew w.heap.size w' u (ordN m l) ∧ Below w.heap.size w w') := ih
    clear ih
    obtain ⟨ao, b, off, cap, hs, hlc⟩ := h
    have hv := hs.hv
    subst hv
    obtain rfl := hs.ha (ne_nil (by omega : 0 < l.length))
    have HS : Hid (SlAt w 1 IntC (.slice (some ⟨b, off, none⟩) l.length cap) l (some ⟨b, off, none⟩) b off cap) := hs
    have hf1 : fac (m + 1) = (m + 1) * fac m := rfl
    have hfm : fac m ≤ 2000 := by have := Nat.le_mul_of_pos_left (fac m) (show 0 < m + 1 by omega); omega
    have hm2 : m + 1 ≤ 2000 := Nat.le_trans (le_fac (m + 1)) hfac
    have HL : Hid (l.length = m + 1) := hl
    have hl2 : l.length ≤ 2000 := by omega
    have hl0 : 1 ≤ l.length := by omega
    have HF : Hid (fac m ≤ 2000 ∧ fac (m + 1) ≤ 2000 ∧ fac (m + 1) = (m + 1) * fac m) := ⟨hfm, hfac, hf1⟩
    have hz : ((l.length : Int) == 0) = false := by rw [beq_eq_false_iff_ne]; omega
    clear hs hl hfac hf1 hfm
    obtain ⟨i0, hi, hz0, hz1, hz2⟩ := info_parts Tryz.info3
    have HI : Hid (Tryz.prog.info? 3 = some i0 ∧ i0.zero = some (.int .i64 0) ∧ i0.size = 1 ∧ i0.bytes = 8) := ⟨hi, hz0, hz1, hz2⟩
    obtain ⟨i1, hi1, hx0, hx1, hx2⟩ := info_parts Tryz.infoInts
    have HI1 : Hid (Tryz.prog.info? 26 = some i1 ∧ i1.zero = some (.slice none 0 0) ∧ i1.size = 1 ∧ i1.bytes = 24) := ⟨hi1, hx0, hx1, hx2⟩
    clear hi hz0 hz1 hz2 hi1 hx0 hx1 hx2
    go_enter Tryz.func129, Tryz.ntmps129
    go_wp2_with fail
    go_loopw [3, 4] (fun va i wr => ∃ (k : Nat) (A : List (List Int)) (aoV : Option Addr) (capV : Nat) (vs : List Value), k ≤ l.length ∧ i = .int .i64 k ∧ va = .slice aoV A.length capV ∧ Hid (A = ordTo m l k) ∧ LL wr w.heap.size (.slice aoV A.length capV) A vs ∧ Below w.heap.size w wr) (fun _ i _ => l.length - (intOf i).toNat)
    case atStart => exact ⟨0, [], none, 0, [], Nat.zero_le _, rfl, rfl, rfl, LL.nil _ _, Below.refl _ _⟩
    case round =>
      obtain ⟨k, A, aoV, capV, vs, hk, rfl, rfl, hA, hLL, hb⟩ := hrel
      have HLL : Hid (LL wr w.heap.size (.slice aoV A.length capV) A vs) := hLL
      have hsz := hb.size
      clear hLL
      by_cases hlt : k < l.length
      · have HSR : Hid (SlAt wr 1 IntC (.slice (some ⟨b, off, none⟩) l.length cap) l (some ⟨b, off, none⟩) b off cap) := HS.out.keep intC_keeps hb
        have hkI : (k : Int) < (l.length : Int) := by omega
        have hkc : k + 1 ≤ cap := by omega
        have HT : Hid (∀ ad, (some ⟨b, off, none⟩ : Option Addr) = some ad → ∀ j u, ((l.take k).map (Value.int .i64))[j]? = some u → wr.cell? (ad.add j) = some u) := fun ad had j u hj => int_cells HSR.out ad had j u (by
          rw [List.map_take, List.getElem?_take] at hj
          split at hj
          · exact hj
          · cases hj)
        have hlt' : ((l.take k).map (Value.int .i64)).length = k * 1 := by simp; omega
        have HLT : Hid (((l.take k).map (Value.int .i64)).length = k * 1) := hlt'
        clear hlt'
        go_wp2_with (at_builtin; refine append_new _ rfl (.tmp 19) (.tmp 22) 26 rfl wr.heap.size 3 i0 (.int .i64 0) 1 8 Tryz.underlying26 HI.out.1 HI.out.2.1 HI.out.2.2.1 HI.out.2.2.2 rfl (by decide) (.slice none 0 0) 0 [] rfl (World.ownsRow_nil _ _ _ _) (some ⟨b, off, none⟩) k cap ((l.take k).map (Value.int .i64)) rfl (fun h => by cases h) HLT.out HT.out (ints_oneCell .i64 _) (by unfold maxLen; omega) (by omega) (Nat.le_refl _) ?_)
        intro v1 w1 hown1 hgrow1 _
        have hb1 : Below wr.heap.size wr w1 := Below.grown (Below.refl _ _) hgrow1 (Nat.le_refl _) (fun kk e => by simp [Value.ownBlock] at e)
        have hw1 : w1.ownsRow wr.heap.size 3 1 v1 k ((l.take k).map (Value.int .i64)) := by simpa using hown1
        have HW1 : Hid (w1.ownsRow wr.heap.size 3 1 v1 k ((l.take k).map (Value.int .i64))) := hw1
        have hs1 := hb1.size
        have HSR1 : Hid (SlAt w1 1 IntC (.slice (some ⟨b, off, none⟩) l.length cap) l (some ⟨b, off, none⟩) b off cap) := HSR.out.keep intC_keeps hb1
        obtain ⟨aoX, hX⟩ : ∃ aoX, (if cap = k + 1 then (some ⟨b, off, none⟩ : Option Addr) else some ⟨b, off + (k + 1), none⟩) = aoX := ⟨_, rfl⟩
        have HX : Hid (∀ ad, aoX = some ad → ∀ j u, ((l.drop (k + 1)).map (Value.int .i64))[j]? = some u → w1.cell? (ad.add j) = some u) := by
          intro ad had j u hj
          rw [List.getElem?_map] at hj
          obtain ⟨x, hx, rfl⟩ := Option.map_eq_some_iff.1 hj
          rw [List.getElem?_drop] at hx
          have hk2 : k + 1 + j < l.length := (List.getElem?_eq_some_iff.1 hx).1
          rw [← hX, if_neg (by omega)] at had
          cases had
          have hC := HSR1.out.hc (k + 1 + j) x hx
          unfold IntC at hC
          rw [Nat.mul_one, ← Nat.add_assoc] at hC
          rw [Addr.add_lit]; exact hC
        have HXN : Hid (aoX = none → l.length - (k + 1) = 0 ∧ cap - (k + 1) = 0) := by
          intro h; rw [← hX] at h; split at h <;> cases h
        have HXL : Hid (((l.drop (k + 1)).map (Value.int .i64)).length = (l.length - (k + 1)) * 1) := by unfold Hid; simp
        clear hown1 hgrow1 hw1 HT HLT HSR
        go_wp2_with (at_builtin; refine append_new _ rfl (.tmp 24) (.tmp 28) 26 rfl wr.heap.size 3 i0 (.int .i64 0) 1 8 Tryz.underlying26 HI.out.1 HI.out.2.1 HI.out.2.2.1 HI.out.2.2.2 rfl (by decide) v1 k ((l.take k).map (Value.int .i64)) rfl HW1.out aoX (l.length - (k + 1)) (cap - (k + 1)) ((l.drop (k + 1)).map (Value.int .i64)) rfl HXN.out HXL.out HX.out (ints_oneCell .i64 _) (by unfold maxLen; omega) (by omega) hs1 ?_)
        intro v2 w2 hown2 hgrow2 _
        have hb2 : Below wr.heap.size wr w2 := Below.grown hb1 hgrow2 hs1 (fun kk e => (HW1.out.lt kk e).1)
        have he : l.eraseIdx k = l.take k ++ l.drop (k + 1) := erase_take hlt
        have hel : (l.eraseIdx k).length = m := by rw [List.length_eraseIdx, if_pos hlt]; have := HL.out; omega
        have hw2 : w2.ownsRow wr.heap.size 3 1 v2 (l.eraseIdx k).length ((l.eraseIdx k).map (Value.int .i64)) := by
          have e1 : (l.eraseIdx k).length = k + (l.length - (k + 1)) := by rw [hel]; have := HL.out; omega
          rw [e1, he, List.map_append, List.map_take, List.map_drop]; exact hown2
        generalize hrest : l.eraseIdx k = rest at hel hw2
        have HRS : Hid (l.eraseIdx k = rest) := hrest
        have HRC : Hid (IntCap w2 v2 rest ∧ rest.length = m) := ⟨(owns_int hw2).cap, hel⟩
        have hs2 := hb2.size
        have hbr2 : Below w.heap.size w w2 := hb.trans (hb2.mono hsz)
        clear hX hown2 hgrow2 he hel hw2 hrest HW1 HSR1 HX HXN HXL hb1 hs1
        have HLL2 : Hid (LL w2 w.heap.size (.slice aoV A.length capV) A vs) := HLL.out.keep hb2
        clear HLL hb2
        go_wp2_with fail
        refine (IH.out rest v2 w2 HRC.out.2 HF.out.1 HRC.out.1).mono ?_
        have hRl : (ordN m rest).length = fac m := ordN_len _ _ HRC.out.2
        have HRM : Hid (∀ y ∈ ordN m rest, y.length = m) := ordN_mem HRC.out.2
        generalize hR : ordN m rest = R at hRl HRM
        have HR : Hid (ordN m rest = R) := hR
        clear hR
        rintro e w3 ⟨u6, rfl, hu6, hb3⟩
        obtain ⟨ao6, b6, off6, cap6, hv6, ha6, _, hb6, hc6⟩ := hu6
        subst hv6
        have hAR : A.length + R.length ≤ 2000 := by
          rw [hA.out, ordTo_len m l HL.out k hk, hRl]
          have h1 : (k + 1) * fac m ≤ (m + 1) * fac m := Nat.mul_le_mul_right _ (by have := HL.out; omega)
          have h2 := HF.out.2.1
          rw [HF.out.2.2] at h2
          rw [Nat.add_mul] at h1
          omega
        have HC6 : Hid (∀ (j : Nat) (y : List Int), R[j]? = some y → ∃ u, w3.cell? ⟨b6, off6 + j, none⟩ = some u ∧ IntAt w3 u y ∧ ∀ g, u.ownBlock = some g → w2.heap.size ≤ g ∧ g < w3.heap.size) := fun j y hy => (hc6 j y hy).imp fun u h => ⟨h.1, h.2.1.at', h.2.2⟩
        have HA6 : Hid (R ≠ [] → ao6 = some ⟨b6, off6, none⟩) := ha6
        have HLL3 : Hid (LL w3 w.heap.size (.slice aoV A.length capV) A vs) := HLL2.out.keep hb3
        have hbr3 := below_more hbr2 hb3
        have HG0 : Hid (∀ g, (Value.slice aoV A.length capV).ownBlock = some g → g < w2.heap.size) := fun g hg => (HLL2.out.own.lt g hg).2
        have hs3 := hb3.size
        clear hc6 ha6 hb3 HLL2 hRl HRC hbr2
        generalize hg0 : (Value.slice aoV A.length capV).ownBlock = g0 at HG0
        have HG1 : Hid ((Value.slice aoV A.length capV).ownBlock = g0) := hg0
        clear hg0
        obtain ⟨x, hx⟩ := get_of_lt hlt
        have HX1 : Hid (l.getD k 0 = x ∧ l[k]? = some x) := ⟨by rw [List.getD, hx]; rfl, hx⟩
        clear hx
        go_wp2_with fail
        go_loopw [3, 7] (fun va i wr => ∃ (j : Nat) (M : List (List Int)) (aoM : Option Addr) (capM : Nat) (vs : List Value), j ≤ R.length ∧ i = .int .i64 j ∧ va = .slice aoM M.length capM ∧ Hid (M = A ++ (R.take j).map fun r => x :: r) ∧ M.length ≤ A.length + j ∧ LL wr w.heap.size (.slice aoM M.length capM) M vs ∧ Aw w3 wr g0 (.slice aoM M.length capM) ∧ Below w.heap.size w wr) (fun _ i _ => R.length - (intOf i).toNat)
        case atStart => exact ⟨0, A, aoV, capV, vs, Nat.zero_le _, rfl, rfl, by unfold Hid; simp, by omega, HLL3.out, HG1.out ▸ Aw.refl _ _, hbr3⟩
        case round =>
          clear HLL3 hbr3
          obtain ⟨j, M, aoM, capM, vsM, hj, rfl, rfl, hM, hMl, hLL, haw, hb⟩ := hrel
          have HLL : Hid (LL wr w.heap.size (.slice aoM M.length capM) M vsM) := hLL
          have HAW : Hid (Aw w3 wr g0 (.slice aoM M.length capM)) := haw
          have hsz := hb.size
          clear hLL haw
          by_cases hlt2 : j < R.length
          · obtain ⟨y, hy⟩ := get_of_lt hlt2
            obtain ⟨uy, d0, iy, by'⟩ := HC6.out j y hy
            have ha6 := HA6.out (ne_nil hlt2)
            subst ha6
            have hne : ∀ g, w2.heap.size ≤ g → some g ≠ g0 := fun g hg e => by have h1 := HG0.out g e.symm; omega
            have d1 := HAW.out.cell d0 (hne b6 hb6)
            have iy2 : IntAt wr uy y := iy.other (fun g hg => HAW.out.block g (by' g hg).2 (hne g (by' g hg).1))
            obtain ⟨aoY, bY, offY, capY, hsY⟩ := iy2
            have hvY := hsY.hv
            subst hvY
            have hyl : y.length ≤ 2000 := by have := HRM.out y (List.mem_of_getElem? hy); omega
            have HSY : Hid (SlAt wr 1 IntC (.slice aoY y.length capY) y aoY bY offY capY) := hsY
            have c0 : wr.cell? ⟨b, off + k, none⟩ = some (.int .i64 x) := by
              have := intC_keeps _ _ _ _ _ hb (HS.out.hc k x HX1.out.2)
              unfold IntC at this; rwa [Nat.mul_one] at this
            have hbl := World.block_lt_of_cell? _ _ c0
            have hbl6 := World.block_lt_of_cell? _ _ d1
            have HMN : Hid (M ++ [x :: y] = A ++ (R.take (j + 1)).map fun r => x :: r) := by unfold Hid; rw [hM.out, take_snoc hy]; simp
            have hjI : (j : Int) < (R.length : Int) := by omega
            clear hsY iy d0 by' hy hM
            have HO1 : Hid ((wr.alloc (.cells #[.int .i64 x] 3)).ownsRow wr.heap.size 3 1 (.slice (some ⟨wr.heap.size, 0, none⟩) 1 1) 1 [.int .i64 x]) := own_one wr x 3
            have HSY1 : Hid (SlAt (wr.alloc (.cells #[.int .i64 x] 3)) 1 IntC (.slice aoY y.length capY) y aoY bY offY capY) := HSY.out.keep intC_keeps (below_alloc _ _)
            go_wp2_with (at_builtin; refine append_new _ rfl (.tmp 43) (.tmp 47) 26 rfl wr.heap.size 3 i0 (.int .i64 0) 1 8 Tryz.underlying26 HI.out.1 HI.out.2.1 HI.out.2.2.1 HI.out.2.2.2 rfl (by decide) (.slice (some ⟨wr.heap.size, 0, none⟩) 1 1) 1 [.int .i64 x] rfl HO1.out aoY y.length capY (y.map (Value.int .i64)) rfl (fun h => ⟨by rw [(HSY.out.hn h).1]; rfl, (HSY.out.hn h).2⟩) (by simp) (int_cells HSY1.out) (ints_oneCell .i64 _) (by unfold maxLen; omega) (by omega) (by simp) ?_)
            intro v5 w5 hown5 hgrow5 _
            have hb5 : Below wr.heap.size wr w5 := Below.grown (below_alloc _ _) hgrow5 (by simp) (fun kk e => by simp [Value.ownBlock] at e; omega)
            generalize hxy : x :: y = xy at HMN
            have hw5 : w5.ownsRow wr.heap.size 3 1 v5 xy.length (xy.map (Value.int .i64)) := by
              rw [← hxy, List.length_cons, Nat.add_comm]; exact hown5
            have hu5 := owns_own hw5
            obtain ⟨ao5, cap5, hf5⟩ := hu5.1.at'.form
            subst hf5
            have hs5 := hb5.size
            have HLL5 : Hid (LL w5 w.heap.size (.slice aoM M.length capM) M vsM) := HLL.out.keep hb5
            have HAW5 : Hid (Aw w3 w5 g0 (.slice aoM M.length capM)) := HAW.out.below hb5
            have HU5 : Hid (IntCap w5 (.slice ao5 xy.length cap5) xy ∧ ∀ g, (Value.slice ao5 xy.length cap5).ownBlock = some g → w.heap.size ≤ g ∧ g < w5.heap.size ∧ (Value.slice aoM M.length capM).ownBlock ≠ some g) :=
              ⟨hu5.1.cap, fun g hg => ⟨by have := (hu5.2 g hg).1; omega, (hu5.2 g hg).2, fun e => by have := (HLL.out.own.lt g e).2; have := (hu5.2 g hg).1; omega⟩⟩
            have HB5 : Hid (Below w.heap.size w w5) := hb.trans (hb5.mono hsz)
            clear hown5 hgrow5 hw5 hu5 hxy hb5 HLL HAW HSY HSY1 HO1 c0 d1 hb
            go_wp2_with (at_builtin; refine append_new _ rfl (.tmp 49) (.tmp 51) 27 rfl w.heap.size 26 i1 (.slice none 0 0) 1 24 Tryz.underlying27 HI1.out.1 HI1.out.2.1 HI1.out.2.2.1 HI1.out.2.2.2 rfl (by decide) (.slice aoM M.length capM) M.length vsM rfl (HLL5.out.own.alloc _) (some ⟨w5.heap.size, 0, none⟩) 1 1 [.slice ao5 xy.length cap5] rfl (fun h => by cases h) rfl (fun ad had => by cases had; exact new_one rfl) (by simp [Value.oneCell']) (by unfold maxLen; omega) (by omega) (by simp; omega) ?_)
            intro V8 w8 hown8 hgrow8 hap8
            obtain ⟨ao8, cap8, hf8, _⟩ := own_form hown8
            have hap9 : ∀ g, V8.ownBlock = some g → (Value.slice aoM M.length capM).ownBlock = some g ∨ w5.heap.size + 1 ≤ g := by simpa using hap8
            have HLL8 : Hid (LL w8 w.heap.size V8 (M ++ [xy]) (vsM ++ [.slice ao5 xy.length cap5])) := HLL5.out.snoc HU5.out.1 HU5.out.2 hown8 hgrow8 hap9
            have HAW8 : Hid (Aw w3 w8 g0 V8) := (HAW5.out.below (below_alloc _ _)).grown hgrow8 (by simpa using hap9)
            have HB8 : Hid (Below w.heap.size w w8) := Below.grown (HB5.out.alloc HB5.out.size _) hgrow8 (by have := HB5.out.size; simp; omega) (fun kk e => (HLL5.out.own.lt kk e).1)
            have hM8 : (M ++ [xy]).length ≤ A.length + (j + 1) := by simp; omega
            have hf10 : (M ++ [xy]).length = M.length + 1 := by simp
            rw [← hf10] at hf8
            generalize M ++ [xy] = M3 at HLL8 HMN hM8 hf8
            subst hf8
            clear hown8 hgrow8 hap8 hap9 HLL5 HU5 HB5 HAW5 hf10
            go_wp2_with fail
            go_roundw
            case measure => simp [intOf]; omega
            case rel => exact ⟨j + 1, M3, ao8, cap8, _, by omega, by go_num, rfl, HMN.out, by omega, HLL8.out, HAW8.out, HB8.out⟩
          · have HMN : Hid (M = ordTo m l (k + 1)) := by
              unfold Hid
              rw [ordTo_succ, HRS.out, HR.out, HX1.out.1, ← hA.out, hM.out, List.take_of_length_le (by omega)]
            clear hM
            go_wp2_with fail
            go_roundw
            case measure => simp [intOf]; omega
            case rel => exact ⟨k + 1, M, aoM, capM, vsM, by omega, by go_num, rfl, HMN.out, HLL.out, hb⟩
      · have hkl : k = l.length := by omega
        subst hkl
        have HAA : Hid (ordN (m + 1) l = A) := hA.out.symm
        clear hA
        go_wp2_with fail
        go_ret
        exact ⟨_, rfl, by rw [HAA.out]; exact HLL.out.read, hb⟩

end Go.Proofs.YtomijmikkbhgmaaGreat

namespace Go.Proofs.YtomijmikkbhgmaaGreat
open Go.RowKit

theorem Tryz.infoExec : (Tryz.prog.info? 29).map (fun i => (i.zero, i.size, i.bytes)) = some (some (.agg #[.slice none 0 0, .slice none 0 0]), 2, 48) := by kernel_rfl

theorem IntAt.sub {w w' : World} {v : Value} {l : List Int} (h : IntAt w v l) (hs : ∀ b : Nat, b < w.heap.size → w'.heap[b]? = w.heap[b]?) : IntAt w' v l := by
  obtain ⟨ao, b, off, cap, hv, ha, hn, hc⟩ := h
  exact ⟨ao, b, off, cap, hv, ha, hn, fun k x hx => cell_heap (hs b (World.block_lt_of_cell? _ _ (hc k x hx))) (hc k x hx)⟩

theorem IntCap.sub {w w' : World} {v : Value} {l : List Int} (h : IntCap w v l) (hs : ∀ b : Nat, b < w.heap.size → w'.heap[b]? = w.heap[b]?) : IntCap w' v l := by
  obtain ⟨ao, b, off, cap, ⟨hv, ha, hn, hc⟩, hl⟩ := h
  exact ⟨ao, b, off, cap, ⟨hv, ha, hn, fun k x hx => cell_heap (hs b (World.block_lt_of_cell? _ _ (hc k x hx))) (hc k x hx)⟩, hl⟩

def XC (w : World) (b off : Nat) (x : Exe) : Prop := ∃ vf vo, w.cell? ⟨b, off, none⟩ = some vf ∧ w.cell? ⟨b, off + 1, none⟩ = some vo ∧ ExeC w vf vo x
def XAt (w : World) (v : Value) (X : List Exe) : Prop := ∃ ao b off cap, SlAt w 2 XC v X ao b off cap

theorem xc_keeps : Keeps XC := fun _ _ _ _ _ hb ⟨vf, vo, h1, h2, h3⟩ => ⟨vf, vo, keep_cell hb h1, keep_cell hb h2, h3.keep hb⟩

/-- An execution that stays while nothing but V's own row turns. -/
def StabX (w : World) (V vf vo : Value) (x : Exe) : Prop :=
  ∀ w' : World, w.heap.size ≤ w'.heap.size → (∀ b : Nat, b < w.heap.size → V.ownBlock ≠ some b → w'.heap[b]? = w.heap[b]?) → ExeC w' vf vo x

structure XL (w : World) (base : Nat) (V : Value) (X : List Exe) (vs : List Value) : Prop where
  own : w.ownsRow base 29 2 V X.length vs
  rows : ∀ (j : Nat) (x : Exe), X[j]? = some x → ∃ vf vo, vs[j * 2]? = some vf ∧ vs[j * 2 + 1]? = some vo ∧ StabX w V vf vo x

theorem XL.nil (w : World) (base : Nat) : XL w base (.slice none 0 0) [] [] := ⟨World.ownsRow_nil _ _ _ _, fun j x h => by simp at h⟩

theorem XL.keep {w w' : World} {base : Nat} {V : Value} {X : List Exe} {vs : List Value} (h : XL w base V X vs) (hb : Below w.heap.size w w') : XL w' base V X vs := by
  refine ⟨own_keep h.own hb, fun j x hx => ?_⟩
  obtain ⟨vf, vo, h1, h2, h3⟩ := h.rows j x hx
  exact ⟨vf, vo, h1, h2, fun w'' hs hk => h3 w'' (Nat.le_trans hb.size hs) (fun b hb1 hb2 => (hk b (Nat.lt_of_lt_of_le hb1 hb.size) hb2).trans (hb.block b hb1))⟩

theorem XL.snoc {w w2 : World} {base : Nat} {V V' : Value} {X : List Exe} {vs : List Value} (h : XL w base V X vs) {x : Exe} {vf vo : Value} (hst : StabX w V vf vo x)
    (hown : w2.ownsRow base 29 2 V' (X.length + 1) (vs ++ [vf, vo])) (hg : w.grownBy w2 V.ownBlock) (hap : ∀ g, V'.ownBlock = some g → V.ownBlock = some g ∨ w.heap.size ≤ g) : XL w2 base V' (X ++ [x]) (vs ++ [vf, vo]) := by
  have hstab : ∀ f o y, StabX w V f o y → StabX w2 V' f o y := by
    intro f o y hy w'' hs hk
    refine hy w'' (Nat.le_trans hg.size hs) (fun b hb1 hb2 => ?_)
    have hne : V'.ownBlock ≠ some b := fun e => by
      rcases hap b e with e' | e'
      · exact hb2 e'
      · omega
    rw [hk b (Nat.lt_of_lt_of_le hb1 hg.size) hne, hg.block b hb1 (fun e => hb2 e.symm)]
  have hlen : vs.length = X.length * 2 := h.own.1
  refine ⟨by simpa using hown, fun j y hy => ?_⟩
  by_cases hj : j < X.length
  · rw [List.getElem?_append_left hj] at hy
    obtain ⟨f, o, h1, h2, h3⟩ := h.rows j y hy
    exact ⟨f, o, by rw [List.getElem?_append_left (by omega)]; exact h1, by rw [List.getElem?_append_left (by omega)]; exact h2, hstab _ _ _ h3⟩
  · have hjL : j = X.length := by
      have := (List.getElem?_eq_some_iff.1 hy).1
      simp at this; omega
    subst hjL
    rw [List.getElem?_append_right (Nat.le_refl _), Nat.sub_self] at hy
    simp at hy
    subst hy
    exact ⟨vf, vo, by rw [List.getElem?_append_right (by omega), hlen, Nat.sub_self]; rfl, by rw [List.getElem?_append_right (by omega), hlen, show X.length * 2 + 1 - X.length * 2 = 1 by omega]; rfl, hstab _ _ _ hst⟩

theorem XL.read {w : World} {base : Nat} {V : Value} {X : List Exe} {vs : List Value} (h : XL w base V X vs) : XAt w V X := by
  rcases h.own.2 with ⟨hv, hn⟩ | ⟨g, cap, cur, hv, hg, hh, _⟩
  · have h0 : X = [] := List.eq_nil_of_length_eq_zero hn
    subst h0
    exact ⟨none, 0, 0, 0, hv, fun h => absurd rfl h, fun _ => ⟨rfl, rfl⟩, fun k x h => by simp at h⟩
  · refine ⟨_, g, 0, cap, hv, fun _ => rfl, fun h => by simp at h, fun k x hk => ?_⟩
    obtain ⟨vf, vo, h1, h2, h3⟩ := h.rows k x hk
    have c1 := h.own.cells (g := g) (by rw [hv]; rfl) (k * 2) vf h1
    have c2 := h.own.cells (g := g) (by rw [hv]; rfl) (k * 2 + 1) vo h2
    rw [Addr.add_lit] at c1 c2
    exact ⟨vf, vo, c1, by rw [Nat.add_assoc]; exact c2, h3 w (Nat.le_refl _) (fun _ _ _ => rfl)⟩

/-- What is made of one element of each list, while the row V lies above all of them. -/
theorem stab_new {w0 wr wa : World} {V : Value} {f a b c : List Int} {uf ua ub uc : Value} (hf : IntAt w0 uf f) (ha : IntCap w0 ua a) (hb : IntCap w0 ub b) (hc : IntCap w0 uc c)
    (hw : Below w0.heap.size w0 wa) {g : Nat} (_hg : wr.heap.size = g) (hgl : g < wa.heap.size) (hV : ∀ k, V.ownBlock = some k → w0.heap.size ≤ k ∧ k < g)
    (c0 : wa.cell? ⟨g, 0, none⟩ = some ua) (c1 : wa.cell? ⟨g, 1, none⟩ = some ub) (c2 : wa.cell? ⟨g, 2, none⟩ = some uc) : StabX wa V uf (.slice (some ⟨g, 0, none⟩) 3 3) ⟨f, [a, b, c]⟩ := by
  intro w' hs hk
  have h0 : ∀ k : Nat, k < w0.heap.size → w'.heap[k]? = w0.heap[k]? := fun k hk2 => (hk k (Nat.lt_of_lt_of_le hk2 hw.size) (fun e => by have := (hV k e).1; omega)).trans (hw.block k hk2)
  have hgk : w'.heap[g]? = wa.heap[g]? := hk g hgl (fun e => by have := (hV g e).2; omega)
  refine ⟨hf.sub h0, some ⟨g, 0, none⟩, g, 0, 3, rfl, fun _ => rfl, fun h => by simp at h, fun k x hx => ?_⟩
  match k, hx with
  | 0, hx => simp at hx; subst hx; exact ⟨ua, cell_heap hgk c0, ha.sub h0⟩
  | 1, hx => simp at hx; subst hx; exact ⟨ub, cell_heap hgk c1, hb.sub h0⟩
  | 2, hx => simp at hx; subst hx; exact ⟨uc, cell_heap hgk c2, hc.sub h0⟩
  | k + 3, hx => simp at hx

/-- The parts of all candidates. -/
def g3 (C : List (List Int)) (f a b : List Int) : List Exe := C.map fun c => ⟨f, [a, b, c]⟩
def g2 (B C : List (List Int)) (f a : List Int) : List Exe := B.flatMap (g3 C f a)
def g1 (A B C : List (List Int)) (f : List Int) : List Exe := A.flatMap (g2 B C f)
theorem exs_g (E : List Evt) : exs E = (allF (rdo E E)).flatMap (g1 (ords E 0) (ords E 1) (ords E 2)) := rfl

theorem flat_drop {α β : Type} {l : List α} {k : Nat} {x : α} (h : l[k]? = some x) (f : α → List β) : (l.drop k).flatMap f = f x ++ (l.drop (k + 1)).flatMap f := by rw [drop_cons h]; rfl

theorem LstAt.nth {w : World} {v : Value} {L : List (List Int)} {ao : Option Addr} {b off cap : Nat} (h : SlAt w 1 LC v L ao b off cap) {w' : World} (hb : Below w.heap.size w w') {k : Nat} {x : List Int} (hx : L[k]? = some x) :
    ao = some ⟨b, off, none⟩ ∧ ∃ ao' cap', w'.cell? ⟨b, off + k, none⟩ = some (.slice ao' x.length cap') ∧ IntAt w (.slice ao' x.length cap') x := by
  obtain ⟨u, h1, h2⟩ := h.hc k x hx
  rw [Nat.mul_one] at h1
  obtain ⟨ao', cap', rfl⟩ := h2.form
  exact ⟨h.ha (ne_nil (List.getElem?_eq_some_iff.1 hx).1), ao', cap', keep_cell hb h1, h2⟩

theorem LstC.nth {w : World} {v : Value} {L : List (List Int)} {ao : Option Addr} {b off cap : Nat} (h : SlAt w 1 LCC v L ao b off cap) {w' : World} (hb : Below w.heap.size w w') {k : Nat} {x : List Int} (hx : L[k]? = some x) :
    ao = some ⟨b, off, none⟩ ∧ ∃ ao' cap', w'.cell? ⟨b, off + k, none⟩ = some (.slice ao' x.length cap') ∧ IntCap w (.slice ao' x.length cap') x := by
  obtain ⟨u, h1, h2⟩ := h.hc k x hx
  rw [Nat.mul_one] at h1
  obtain ⟨ao', cap', rfl⟩ := h2.form
  exact ⟨h.ha (ne_nil (List.getElem?_eq_some_iff.1 hx).1), ao', cap', keep_cell hb h1, h2⟩

theorem quad_step {w7 wr w8 : World} {V V8 : Value} {X : List Exe} {vs : List Value} {f a b c : List Int} {uf ua ub uc : Value} {t1 t2 : TypeId} (h : XL wr w7.heap.size V X vs) (hb : Below w7.heap.size w7 wr)
    (hf : IntAt w7 uf f) (ha : IntCap w7 ua a) (hbb : IntCap w7 ub b) (hc : IntCap w7 uc c)
    (hown : w8.ownsRow w7.heap.size 29 2 V8 (X.length + 1) (vs ++ [uf, .slice (some ⟨wr.heap.size, 0, none⟩) 3 3]))
    (hg : ((wr.alloc (.cells #[ua, ub, uc] t1)).alloc (.cells #[uf, .slice (some ⟨wr.heap.size, 0, none⟩) 3 3] t2)).grownBy w8 V.ownBlock)
    (hap : ∀ g, V8.ownBlock = some g → V.ownBlock = some g ∨ wr.heap.size + 1 + 1 ≤ g) :
    XL w8 w7.heap.size V8 (X ++ [⟨f, [a, b, c]⟩]) (vs ++ [uf, .slice (some ⟨wr.heap.size, 0, none⟩) 3 3]) ∧ Below w7.heap.size w7 w8 := by
  have hsz := hb.size
  have hV : ∀ k, V.ownBlock = some k → w7.heap.size ≤ k ∧ k < wr.heap.size := fun k hk => h.own.lt k hk
  have hwa : Below w7.heap.size w7 ((wr.alloc (.cells #[ua, ub, uc] t1)).alloc (.cells #[uf, .slice (some ⟨wr.heap.size, 0, none⟩) 3 3] t2)) := (hb.alloc hsz _).alloc (by simp; omega) _
  have k := below_alloc (wr.alloc (.cells #[ua, ub, uc] t1)) (.cells #[uf, .slice (some ⟨wr.heap.size, 0, none⟩) 3 3] t2)
  refine ⟨(h.keep (below_two _ _ _)).snoc (stab_new hf ha hbb hc hwa rfl (by simp; omega) hV (keep_cell k (by simp)) (keep_cell k (by simp)) (keep_cell k (by simp))) hown hg (by simpa using hap), ?_⟩
  exact Below.grown hwa hg (by simp; omega) (fun kk e => (hV kk e).1)

end Go.Proofs.YtomijmikkbhgmaaGreat
