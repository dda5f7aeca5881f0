import Derived.Test.YtbmlmplbhgahpaaOa
import Derived.Test.YtbmlmplbhgahpaaOb
import Derived.Test.YtbmlmplbhgahpaaMath5
namespace Go.Proofs.Ytbmlmplbhgahpaa
open Go.RowKit

theorem IntAt.opened {w : World} {v : Value} {l : List Int} (h : IntAt w v l) : ∃ ao b off cap, SlAt w 1 IntC v l ao b off cap := h

set_option maxHeartbeats 1000000 in
theorem place_any (x : Exe) (h1 : x.from'.length ≤ 1000) (h2 : x.order.length ≤ 1000) (h3 : ∀ y ∈ x.order, y.length ≤ 1000) (vf vo : Value) (w : World) (h : ExeAt w vf vo x) :
    Calls Try.prog 22 #[.agg #[vf, vo]] w fun e w' => ∃ u, e = .returned u ∧ IntAt w' u (plc x) ∧ Below w.heap.size w w' := by
  obtain ⟨ao, b, off, cap, hs⟩ := h.f
  obtain ⟨ao2, b2, off2, cap2, hv2, ha2, _, hc2⟩ := h.o
  have hv := hs.hv
  subst hv hv2
  have HS : Hid (SlAt w 1 IntC (.slice ao x.from'.length cap) x.from' ao b off cap) := hs
  have HC : Hid (∀ k y, x.order[k]? = some y → LC w b2 (off2 + k * 1) y) := hc2
  have H3 : Hid (∀ y ∈ x.order, y.length ≤ 1000) := h3
  have HP : Hid (plc x = x.from' ++ x.order.flatten) := rfl
  generalize plc x = P at HP ⊢
  clear hs hc2 h h3
  obtain ⟨i0, hi, hz0, hz1, hz2⟩ := info_parts Try.info3
  have HI : Hid (Try.prog.info? 3 = some i0 ∧ i0.zero = some (.int .i64 0) ∧ i0.size = 1 ∧ i0.bytes = 8) := ⟨hi, hz0, hz1, hz2⟩
  clear hi hz0 hz1 hz2
  go_enter Try.func22, Try.ntmps22
  go_wp2_with (at_builtin; refine append_new _ rfl (.tmp 5) (.tmp 7) 37 rfl (w.heap.size + 1) 3 i0 (.int .i64 0) 1 8 Try.underlying37 HI.out.1 HI.out.2.1 HI.out.2.2.1 HI.out.2.2.2 rfl (by decide) (.slice none 0 0) 0 [] rfl (World.ownsRow_nil _ _ _ _) ao x.from'.length cap (x.from'.map (Value.int .i64)) rfl (fun h => ⟨by rw [(HS.out.hn h).1]; rfl, (HS.out.hn h).2⟩) (by simp) (int_cells (HS.out.keep intC_keeps (below_alloc _ _))) (ints_oneCell .i64 x.from') (by unfold maxLen; omega) (by omega) (by simp) ?_)
  intro v1 w1 hown1 hgrow1 _
  have hb1 : Below (w.heap.size + 1) (w.alloc (.cells #[.slice ao x.from'.length cap, .slice ao2 x.order.length cap2] 40)) w1 := Below.grown (Below.refl _ _) hgrow1 (by simp) (fun kk e => by simp [Value.ownBlock] at e)
  have hw1 : w1.ownsRow (w.heap.size + 1) 3 1 v1 x.from'.length (x.from'.map (Value.int .i64)) := by simpa using hown1
  have e1 := hb1.cell (p := ⟨w.heap.size, 1, none⟩) (by simp)
  simp at e1
  have hbw1 : Below w.heap.size w w1 := (below_alloc _ _).trans (hb1.mono (by omega))
  have hs1 := hb1.size
  simp at hs1
  clear hown1 hgrow1 hb1
  go_wp2_with fail
  go_loopw [3, 4] (fun u i wr => ∃ (k : Nat) (xs : List Int), k ≤ x.order.length ∧ i = .int .i64 k ∧ xs.length ≤ 1000 + k * 1000 ∧ Hid (P = xs ++ (x.order.drop k).flatten) ∧ wr.ownsRow (w.heap.size + 1) 3 1 u xs.length (xs.map (Value.int .i64)) ∧ Below w.heap.size w wr ∧ wr.cell? ⟨w.heap.size, 1, none⟩ = some (.slice ao2 x.order.length cap2) ∧ w.heap.size + 1 ≤ wr.heap.size) (fun _ i _ => x.order.length - (intOf i).toNat)
  case atStart => exact ⟨0, x.from', Nat.zero_le _, rfl, by omega, HP.out, hw1, hbw1, e1, hs1⟩
  case round =>
    clear hw1 hbw1 e1 hs1
    obtain ⟨k, xs, hk, rfl, hxk, hn, hown, hb, e1, hsz⟩ := hrel
    by_cases hlt : k < x.order.length
    · obtain ⟨y, hy⟩ := get_of_lt hlt
      obtain rfl := ha2 (ne_nil hlt)
      obtain ⟨u1, c0, i1⟩ := lc_keeps _ _ _ _ _ hb (HC.out k y hy)
      rw [Nat.mul_one] at c0
      obtain ⟨ao3, b3, off3, cap3, hs3⟩ := i1
      have hv3 := hs3.hv
      subst hv3
      have HS3 : Hid (SlAt wr 1 IntC (.slice ao3 y.length cap3) y ao3 b3 off3 cap3) := hs3
      have hyl := H3.out y (List.mem_of_getElem? hy)
      have HM : Hid (P = (xs ++ y) ++ (x.order.drop (k + 1)).flatten) := hn.out.trans (by rw [drop_cons hy]; simp)
      have hkI : (k : Int) < (x.order.length : Int) := by omega
      clear hn hy hs3
      go_wp2_with (at_builtin; refine append_new _ rfl (.tmp 16) (.tmp 21) 37 rfl (w.heap.size + 1) 3 i0 (.int .i64 0) 1 8 Try.underlying37 HI.out.1 HI.out.2.1 HI.out.2.2.1 HI.out.2.2.2 rfl (by decide) u3 xs.length (xs.map (Value.int .i64)) rfl hown ao3 y.length cap3 (y.map (Value.int .i64)) rfl (fun h => ⟨by rw [(HS3.out.hn h).1]; rfl, (HS3.out.hn h).2⟩) (by simp) (int_cells HS3.out) (ints_oneCell .i64 y) (by unfold maxLen; omega) (by omega) hsz ?_)
      intro u' w2 hown' hgrow _
      have hb' : Below w.heap.size w w2 := Below.grown hb hgrow (by omega) (fun kk e => by have := (hown.lt kk e).1; omega)
      have hb'' : Below (w.heap.size + 1) wr w2 := Below.grown (Below.refl _ _) hgrow hsz (fun kk e => (hown.lt kk e).1)
      have HO : Hid (w2.ownsRow (w.heap.size + 1) 3 1 u' (xs ++ y).length ((xs ++ y).map (Value.int .i64))) := by
        show w2.ownsRow _ _ _ _ _ _
        rw [List.length_append, List.map_append]; exact hown'
      have e2 : w2.cell? ⟨w.heap.size, 1, none⟩ = some (.slice (some ⟨b2, off2, none⟩) x.order.length cap2) := (hb''.cell (p := ⟨w.heap.size, 1, none⟩) (by simp)).trans e1
      have hs2 : w.heap.size + 1 ≤ w2.heap.size := Nat.le_trans hsz hb''.size
      clear hgrow hown hown' hb'' e1
      go_wp2_with fail
      go_roundw
      case measure => simp [intOf]; omega
      case rel => exact ⟨k + 1, xs ++ y, by omega, by go_num, by simp; omega, HM.out, HO.out, hb', e2, hs2⟩
    · have HM : Hid (P = xs) := hn.out.trans (by rw [drop_nil hlt]; simp)
      clear hn
      go_wp2_with fail
      go_ret
      exact ⟨_, rfl, by rw [HM.out]; exact (owns_int hown).at', hb⟩

end Go.Proofs.Ytbmlmplbhgahpaa
