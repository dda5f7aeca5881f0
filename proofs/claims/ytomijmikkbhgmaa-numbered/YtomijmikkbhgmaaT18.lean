import Derived.Test.YtomijmikkbhgmaaT16
import Derived.Test.YtomijmikkbhgmaaT17
namespace Go.Proofs.Ytomijmikkbhgmaa
open Go.RowKit

theorem IntAt.opened {w : World} {v : Value} {l : List Int} (h : IntAt w v l) : ∃ ao b off cap, SlAt w 1 IntC v l ao b off cap := h

set_option maxHeartbeats 1000000 in
theorem place_any (x : Exe) (h1 : x.from'.length ≤ 1000) (h2 : x.order.length ≤ 1000) (h3 : ∀ y ∈ x.order, y.length ≤ 1000) (vf vo : Value) (w : World) (h : ExeAt w vf vo x) :
    Calls Try.prog 26 #[.agg #[vf, vo]] w fun e w' => ∃ u, e = .returned u ∧ IntAt w' u (plc x) ∧ Below w.heap.size w w' := by
  obtain ⟨ao, b, off, cap, hs⟩ := h.f
  obtain ⟨ao2, b2, off2, cap2, hv2, ha2, _, hc2⟩ := h.o
  have hv := hs.hv
  subst hv hv2
  have HS : Hid (SlAt w 1 IntC (.slice ao x.from'.length cap) x.from' ao b off cap) := hs
  have HC : Hid (∀ k y, x.order[k]? = some y → LC w b2 (off2 + k * 1) y) := hc2
  have H3 : Hid (∀ y ∈ x.order, y.length ≤ 1000) := h3
  have HP : Hid (plc x = x.from' ++ x.order.flatten) := rfl
  generalize plc x = P at HP ⊢
  clear hs hc2 h h3
  obtain ⟨i0, hi, hz0, hz1, hz2⟩ := info_parts Try.info3
  have HI : Hid (Try.prog.info? 3 = some i0 ∧ i0.zero = some (.int .i64 0) ∧ i0.size = 1 ∧ i0.bytes = 8) := ⟨hi, hz0, hz1, hz2⟩
  clear hi hz0 hz1 hz2
  go_enter Try.func26, Try.ntmps26
  go_wp2_with (at_builtin; refine append_new _ rfl (.tmp 5) (.tmp 7) 37 rfl (w.heap.size + 1) 3 i0 (.int .i64 0) 1 8 Try.underlying37 HI.out.1 HI.out.2.1 HI.out.2.2.1 HI.out.2.2.2 rfl (by decide) (.slice none 0 0) 0 [] rfl (World.ownsRow_nil _ _ _ _) ao x.from'.length cap (x.from'.map (Value.int .i64)) rfl (fun h => ⟨by rw [(HS.out.hn h).1]; rfl, (HS.out.hn h).2⟩) (by simp) (int_cells (HS.out.keep intC_keeps (below_alloc _ _))) (ints_oneCell .i64 x.from') (by unfold maxLen; omega) (by omega) (by simp) ?_)
  intro v1 w1 hown1 hgrow1 _
  have hb1 : Below (w.heap.size + 1) (w.alloc (.cells #[.slice ao x.from'.length cap, .slice ao2 x.order.length cap2] 40)) w1 := Below.grown (Below.refl _ _) hgrow1 (by simp) (fun kk e => by simp [Value.ownBlock] at e)
  have hw1 : w1.ownsRow (w.heap.size + 1) 3 1 v1 x.from'.length (x.from'.map (Value.int .i64)) := by simpa using hown1
  have e1 := hb1.cell (p := ⟨w.heap.size, 1, none⟩) (by simp)
  simp at e1
  have hbw1 : Below w.heap.size w w1 := (below_alloc _ _).trans (hb1.mono (by omega))
  have hs1 := hb1.size
  simp at hs1
  clear hown1 hgrow1 hb1
  go_wp2_with fail
  go_loopw [3, 4] (fun u i wr => ∃ (k : Nat) (xs : List Int), k ≤ x.order.length ∧ i = .int .i64 k ∧ xs.length ≤ 1000 + k * 1000 ∧ Hid (P = xs ++ (x.order.drop k).flatten) ∧ wr.ownsRow (w.heap.size + 1) 3 1 u xs.length (xs.map (Value.int .i64)) ∧ Below w.heap.size w wr ∧ wr.cell? ⟨w.heap.size, 1, none⟩ = some (.slice ao2 x.order.length cap2) ∧ w.heap.size + 1 ≤ wr.heap.size) (fun _ i _ => x.order.length - (intOf i).toNat)
  case atStart => exact ⟨0, x.from', Nat.zero_le _, rfl, by omega, HP.out, hw1, hbw1, e1, hs1⟩
  case round =>
    clear hw1 hbw1 e1 hs1
    obtain ⟨k, xs, hk, rfl, hxk, hn, hown, hb, e1, hsz⟩ := hrel
    by_cases hlt : k < x.order.length
    · obtain ⟨y, hy⟩ := get_of_lt hlt
      obtain rfl := ha2 (ne_nil hlt)
      obtain ⟨u1, c0, i1⟩ := lc_keeps _ _ _ _ _ hb (HC.out k y hy)
      rw [Nat.mul_one] at c0
      obtain ⟨ao3, b3, off3, cap3, hs3⟩ := i1
      have hv3 := hs3.hv
      subst hv3
      have HS3 : Hid (SlAt wr 1 IntC (.slice ao3 y.length cap3) y ao3 b3 off3 cap3) := hs3
      have hyl := H3.out y (List.mem_of_getElem? hy)
      have HM : Hid (P = (xs ++ y) ++ (x.order.drop (k + 1)).flatten) := hn.out.trans (by rw [drop_cons hy]; simp)
      have hkI : (k : Int) < (x.order.length : Int) := by omega
      clear hn hy hs3
      go_wp2_with (at_builtin; refine append_new _ rfl (.tmp 16) (.tmp 21) 37 rfl (w.heap.size + 1) 3 i0 (.int .i64 0) 1 8 Try.underlying37 HI.out.1 HI.out.2.1 HI.out.2.2.1 HI.out.2.2.2 rfl (by decide) u3 xs.length (xs.map (Value.int .i64)) rfl hown ao3 y.length cap3 (y.map (Value.int .i64)) rfl (fun h => ⟨by rw [(HS3.out.hn h).1]; rfl, (HS3.out.hn h).2⟩) (by simp) (int_cells HS3.out) (ints_oneCell .i64 y) (by unfold maxLen; omega) (by omega) hsz ?_)
      intro u' w2 hown' hgrow _
      have hb' : Below w.heap.size w w2 := Below.grown hb hgrow (by omega) (fun kk e => by have := (hown.lt kk e).1; omega)
      have hb'' : Below (w.heap.size + 1) wr w2 := Below.grown (Below.refl _ _) hgrow hsz (fun kk e => (hown.lt kk e).1)
      have HO : Hid (w2.ownsRow (w.heap.size + 1) 3 1 u' (xs ++ y).length ((xs ++ y).map (Value.int .i64))) := by
        show w2.ownsRow _ _ _ _ _ _
        rw [List.length_append, List.map_append]; exact hown'
      have e2 : w2.cell? ⟨w.heap.size, 1, none⟩ = some (.slice (some ⟨b2, off2, none⟩) x.order.length cap2) := (hb''.cell (p := ⟨w.heap.size, 1, none⟩) (by simp)).trans e1
      have hs2 : w.heap.size + 1 ≤ w2.heap.size := Nat.le_trans hsz hb''.size
      clear hgrow hown hown' hb'' e1
      go_wp2_with fail
      go_roundw
      case measure => simp [intOf]; omega
      case rel => exact ⟨k + 1, xs ++ y, by omega, by go_num, by simp; omega, HM.out, HO.out, hb', e2, hs2⟩
    · have HM : Hid (P = xs) := hn.out.trans (by rw [drop_nil hlt]; simp)
      clear hn
      go_wp2_with fail
      go_ret
      exact ⟨_, rfl, by rw [HM.out]; exact (owns_int hown).at', hb⟩

end Go.Proofs.Ytomijmikkbhgmaa

namespace Go.Proofs.Ytomijmikkbhgmaa
open Go.RowKit

theorem pow_step {w r k : Nat} (h : k < r) : (w + 1) ^ (r - k) = (w + 1) * (w + 1) ^ (r - (k + 1)) := by
  rw [show r - k = r - (k + 1) + 1 by omega, Nat.pow_succ, Nat.mul_comm]

theorem remL_drop {L : List (Nat × Nat)} {j a b : Nat} (h : L[j]? = some (a, b)) : remL (L.drop j) = (a + 1) ^ b * (fac a * remL (L.drop (j + 1))) := by
  rw [drop_cons h]; rfl

theorem le_of_mul {S n m : Nat} (h : S = n * m) (hm : 1 ≤ m) : n ≤ S := by
  rw [h]; exact Nat.le_mul_of_pos_right n hm

theorem pair_cells {w : World} {L : List (Nat × Nat)} {v : Value} {f : Nat × Nat → Int} (h : IntAt w v (L.map f)) : ∃ ao b off cap, v = .slice ao L.length cap ∧ (L ≠ [] → ao = some ⟨b, off, none⟩) ∧ ∀ k p, L[k]? = some p → w.cell? ⟨b, off + k, none⟩ = some (.int .i64 (f p)) := by
  obtain ⟨ao, b, off, cap, hv, ha, _, hc⟩ := h
  refine ⟨ao, b, off, cap, by simpa using hv, fun h => ha (by simpa using h), fun k p hp => ?_⟩
  have := hc k (f p) (by rw [List.getElem?_map, hp]; rfl)
  unfold IntC at this
  rw [Nat.mul_one] at this
  exact this

set_option maxHeartbeats 1000000 in
theorem ways_any (L : List (Nat × Nat)) (h3 : L.length = 3) (hS : remL L ≤ 2000) (hB : ∀ p ∈ L, p.1 ≤ 96 ∧ p.2 ≤ 96) (vw vr : Value) (w : World) (hw : IntAt w vw (L.map fun p => (p.1 : Int))) (hr : IntAt w vr (L.map fun p => (p.2 : Int))) :
    Calls Try.prog 24 #[.agg #[vw, vr]] w fun e w' => e = .returned (.int .i64 (remL L : Nat)) ∧ Below w.heap.size w w' := by
  obtain ⟨ao, b, off, cap, hv, ha, hc⟩ := pair_cells hw
  obtain ⟨ao2, b2, off2, cap2, hv2, ha2, hc2⟩ := pair_cells hr
  subst hv hv2
  have hnn : L ≠ [] := by intro h; rw [h] at h3; simp at h3
  obtain rfl := ha hnn
  obtain rfl := ha2 hnn
  have HC : Hid ((∀ k p, L[k]? = some p → w.cell? ⟨b, off + k, none⟩ = some (.int .i64 (p.1 : Int))) ∧ (∀ k p, L[k]? = some p → w.cell? ⟨b2, off2 + k, none⟩ = some (.int .i64 (p.2 : Int))) ∧ ∀ p ∈ L, p.1 ≤ 96 ∧ p.2 ≤ 96) := ⟨hc, hc2, hB⟩
  have H3 : Hid (L.length = 3) := h3
  rw [h3]
  clear hc hc2 hB hw hr ha ha2 h3 hnn
  generalize hSS : remL L = S at hS
  have HS : Hid (S = 1 * remL (L.drop 0)) := by rw [List.drop_zero, Nat.one_mul, hSS]; exact rfl
  clear hSS
  go_enter Try.func24, Try.ntmps24
  go_wp2_with fail
  go_loop [3, 4] (fun u i => ∃ (j n : Nat), j ≤ 3 ∧ i = .int .i64 j ∧ u = .int .i64 n ∧ Hid (S = n * remL (L.drop j))) (fun _ i => 3 - (intOf i).toNat)
  case atStart => exact ⟨0, 1, by omega, rfl, rfl, HS.out⟩
  case round =>
    clear HS
    obtain ⟨j, n, hj, rfl, rfl, hn⟩ := hrel
    by_cases hlt : j < 3
    · obtain ⟨⟨a, r⟩, hp⟩ := get_of_lt (l := L) (k := j) (by have := H3.out; omega)
      have c0 := keep_cell (below_alloc w (.cells #[.slice (some ⟨b, off, none⟩) 3 cap, .slice (some ⟨b2, off2, none⟩) 3 cap2] 48)) (HC.out.1 j _ hp)
      have c1 := keep_cell (below_alloc w (.cells #[.slice (some ⟨b, off, none⟩) 3 cap, .slice (some ⟨b2, off2, none⟩) 3 cap2] 48)) (HC.out.2.1 j _ hp)
      have m0 := World.block_lt_of_cell? _ _ (HC.out.1 j _ hp)
      have m1 := World.block_lt_of_cell? _ _ (HC.out.2.1 j _ hp)
      obtain ⟨ha96, hr96⟩ := HC.out.2.2 _ (List.mem_of_getElem? hp)
      have HP : Hid (1 ≤ remL (L.drop (j + 1))) := remL_pos _
      have HN : Hid (S = n * ((a + 1) ^ (r - 0) * (fac a * remL (L.drop (j + 1))))) := hn.out.trans (by rw [remL_drop hp]; rfl)
      generalize hRR : remL (L.drop (j + 1)) = R at HP HN
      have HR : Hid (R = remL (L.drop (j + 1))) := hRR.symm
      clear hRR
      simp only at c0 c1 ha96 hr96
      clear hn hp
      go_wp2_with fail
      go_loop [3, 5] (fun u i => ∃ (k n : Nat), k ≤ r ∧ i = .int .i64 k ∧ u = .int .i64 n ∧ Hid (S = n * ((a + 1) ^ (r - k) * (fac a * R)))) (fun _ i => r - (intOf i).toNat)
      case atStart => exact ⟨0, n, by omega, rfl, rfl, HN.out⟩
      case round =>
        clear HN
        obtain ⟨k, n2, hk, rfl, rfl, hn⟩ := hrel
        by_cases hkr : k < r
        · have HM : Hid (S = (n2 * (a + 1)) * ((a + 1) ^ (r - (k + 1)) * (fac a * R))) := hn.out.trans (by rw [pow_step hkr, Nat.mul_assoc, Nat.mul_assoc])
          have hn2 : n2 ≤ 2000 := Nat.le_trans (le_of_mul hn.out (Nat.mul_le_mul (Nat.pow_pos (by omega)) (Nat.mul_le_mul (fac_pos a) HP.out))) hS
          obtain ⟨hm1, hm2⟩ := @mul_bd n2 (a + 1) 2000 97 hn2 (by omega)
          rw [show ((a + 1 : Nat) : Int) = (a : Int) + 1 by simp] at hm1 hm2
          have hkI : (k : Int) < (r : Int) := by omega
          clear hn
          go_wp2_with fail
          go_round
          case measure => simp [intOf]; omega
          case rel => exact ⟨k + 1, n2 * (a + 1), by omega, by go_num, by simp, HM.out⟩
        · have HN : Hid (S = n2 * (prodUp 2 (a + 1 - 2) * R)) := hn.out.trans (by rw [show r - k = 0 by omega, Nat.pow_zero, Nat.one_mul, prodUp_two])
          have hkI : (r : Int) ≤ (k : Int) := by omega
          clear hn
          go_wp2_with fail
          go_loop [3, 6] (fun u i => ∃ (k n : Nat), 2 ≤ k ∧ k ≤ 98 ∧ i = .int .i64 k ∧ u = .int .i64 n ∧ Hid (S = n * (prodUp k (a + 1 - k) * R))) (fun _ i => 98 - (intOf i).toNat)
          case atStart => exact ⟨2, n2, by omega, by omega, rfl, rfl, HN.out⟩
          case round =>
            clear HN
            obtain ⟨k2, n3, hk2, hk98, rfl, rfl, hn⟩ := hrel
            by_cases hka : k2 ≤ a
            · have HM : Hid (S = (n3 * k2) * (prodUp (k2 + 1) (a + 1 - (k2 + 1)) * R)) := hn.out.trans (by rw [prodUp_step hka, Nat.mul_assoc, Nat.mul_assoc])
              have hn3 : n3 ≤ 2000 := Nat.le_trans (le_of_mul hn.out (Nat.mul_le_mul (prodUp_pos _ _ (by omega)) HP.out)) hS
              obtain ⟨hm1, hm2⟩ := @mul_bd n3 k2 2000 98 hn3 (by omega)
              have hkI2 : (k2 : Int) ≤ (a : Int) := by omega
              clear hn
              go_wp2_with fail
              go_round
              case measure => simp [intOf]; omega
              case rel => exact ⟨k2 + 1, n3 * k2, by omega, by omega, by go_num, by simp, HM.out⟩
            · have HM : Hid (S = n3 * R) := hn.out.trans (by rw [prodUp_done hka, Nat.one_mul])
              have hkI2 : (a : Int) < (k2 : Int) := by omega
              clear hn
              go_wp2_with fail
              go_round
              case measure => simp [intOf]; omega
              case rel => exact ⟨j + 1, n3, by omega, by go_num, rfl, HR.out ▸ HM.out⟩
    · have e3 : j = 3 := by omega
      subst e3
      have HR : Hid (S = n) := hn.out.trans (by rw [drop_nil (by have := H3.out; omega)]; simp [remL])
      clear hn
      go_wp2_with fail
      go_ret
      exact ⟨by rw [HR.out]; rfl, below_alloc _ _⟩

end Go.Proofs.Ytomijmikkbhgmaa
