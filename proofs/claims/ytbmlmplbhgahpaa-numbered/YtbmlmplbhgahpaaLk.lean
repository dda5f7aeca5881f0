import Derived.Test.YtbmlmplbhgahpaaLj
namespace Go.Proofs.Ytbmlmplbhgahpaa
open Go.RowKit

theorem own_one (w : World) (a : Int) (t : TypeId) : (w.alloc (.cells #[.int .i64 a] t)).ownsRow w.heap.size t 1 (.slice (some ⟨w.heap.size, 0, none⟩) 1 1) [a].length ([a].map (Value.int .i64)) :=
  ⟨rfl, .inr ⟨w.heap.size, 1, #[.int .i64 a], rfl, Nat.le_refl _, heap_alloc_new w _, Nat.le_refl _, by unfold maxLen; omega, rfl, rfl⟩⟩

set_option maxHeartbeats 1000000 in
theorem sources_any (E : List Evt) (hE : E.length ≤ 96) (loc : Int) (v : Value) (w : World) (h : Ev4At w v E) :
    Calls Try.prog 47 #[v, .int .i64 loc] w fun e w' => ∃ u, e = .returned u ∧ IntNew w.heap.size w' u (-1 :: wrs E 0 loc) ∧ Below w.heap.size w w' := by
  obtain ⟨i0, hi, hz0, hz1, hz2⟩ := info_parts Try.info3
  have HI : Hid (Try.prog.info? 3 = some i0 ∧ i0.zero = some (.int .i64 0) ∧ i0.size = 1 ∧ i0.bytes = 8) := ⟨hi, hz0, hz1, hz2⟩
  clear hi hz0 hz1 hz2
  have hwl := wrs_len E 0 loc
  generalize hW : wrs E 0 loc = W at hwl
  have HW : Hid (wrs E 0 loc = W) := hW
  clear hW
  have hv : ∃ ao n cap, v = .slice ao n cap := by
    obtain ⟨ao, b, off, cap, hv, _⟩ := h
    exact ⟨_, _, _, hv⟩
  obtain ⟨ao, n, cap, hv⟩ := hv
  have HH : Hid (Ev4At w v E) := h
  clear h
  subst hv
  go_enter Try.func47, Try.ntmps47
  go_wp2_with (go_at_call 49; refine (writesP_any E hE loc _ _ (HH.out.keep (below_alloc _ _))).mono ?_; rw [HW.out]; rintro e w3 ⟨u, rfl, hu, hb3⟩; obtain ⟨ao2, b2, off2, cap2, ⟨hv2, ha2, _, hc2⟩, hb2⟩ := hu; subst hv2; simp only [World.size_alloc] at hb2)
  have hown0 := own_keep (own_one w (-1) 3) hb3
  have hb : Below w.heap.size w w3 := below_more (below_alloc _ _) hb3
  clear hb3
  go_loopw [5, 13] (fun u i wr => ∃ (k : Nat) (xs : List Int), k ≤ W.length ∧ i = .int .i64 k ∧ Hid (xs = -1 :: W.take k) ∧ xs.length ≤ 1 + k ∧ wr.ownsRow w.heap.size 3 1 u xs.length (xs.map (Value.int .i64)) ∧ (∀ g, u.ownBlock = some g → g ≠ b2) ∧ (∀ j x, W[j]? = some x → b2 < wr.heap.size ∧ wr.cell? ⟨b2, off2 + j, none⟩ = some (.int .i64 x)) ∧ Below w.heap.size w wr) (fun _ i _ => W.length - (intOf i).toNat)
  case atStart =>
    refine ⟨0, [-1], Nat.zero_le _, rfl, rfl, Nat.le_refl _, hown0, ?_, ?_, hb⟩
    · intro g hg; simp [Value.ownBlock] at hg; omega
    · intro j x hj
      have h1 := hc2 j x hj
      unfold IntC at h1
      rw [Nat.mul_one] at h1
      exact ⟨World.block_lt_of_cell? _ _ h1, h1⟩
  case round =>
    obtain ⟨k, xs, hk, rfl, hxs, hxl, hown, hap, hcs, hbr⟩ := hrel
    have hsz := hbr.size
    by_cases hlt : k < W.length
    · obtain ⟨x, hx⟩ := get_of_lt hlt
      obtain ⟨hbl, c0⟩ := hcs k x hx
      obtain rfl := ha2 (ne_nil hlt)
      have HX : Hid (xs ++ [x] = -1 :: W.take (k + 1)) := by rw [hxs.out, take_snoc hx]; rfl
      have HCS : Hid (∀ j x, W[j]? = some x → b2 < wr.heap.size ∧ wr.cell? ⟨b2, off2 + j, none⟩ = some (.int .i64 x)) := hcs
      clear hx hc2 ha2 hcs hb hown0
      go_wp2_with (at_builtin; refine append_new _ rfl _ _ 37 rfl w.heap.size 3 i0 (.int .i64 0) 1 8 Try.underlying37 HI.out.1 HI.out.2.1 HI.out.2.2.1 HI.out.2.2.2 rfl (by decide) _ _ _ rfl (hown.alloc _) (some ⟨wr.heap.size, 0, none⟩) 1 1 [.int .i64 x] rfl (fun h => by cases h) rfl (fun ad had => by cases had; exact new_one rfl) (by simp [Value.oneCell']) (by unfold maxLen; omega) (by omega) (by simp; omega) ?_)
      intro u' w1 hown' hgrow hap'
      have hb' : Below w.heap.size w w1 := Below.grown (hbr.alloc hsz _) hgrow (by simp; omega) (fun kk e => (hown.lt kk e).1)
      have hcs' : ∀ j x, W[j]? = some x → b2 < w1.heap.size ∧ w1.cell? ⟨b2, off2 + j, none⟩ = some (.int .i64 x) := by
        intro j y hj
        obtain ⟨q1, q2⟩ := HCS.out j y hj
        have := hgrow.size
        simp only [World.size_alloc] at this
        exact ⟨by omega, hgrow.cell (keep_cell (below_alloc _ _) q2) (fun e => hap b2 e.symm rfl)⟩
      have hap2 : ∀ g, u'.ownBlock = some g → g ≠ b2 := by
        intro g hg
        rcases hap' g hg with h | h
        · exact hap g h
        · try simp only [World.size_alloc] at h
          omega
      have HO : Hid (w1.ownsRow w.heap.size 3 1 u' (xs ++ [x]).length ((xs ++ [x]).map (Value.int .i64))) := own_snoc hown'
      clear hgrow hown hap hap' HCS hown' c0
      have HC2 : Hid (∀ j x, W[j]? = some x → b2 < w1.heap.size ∧ w1.cell? ⟨b2, off2 + j, none⟩ = some (.int .i64 x)) := hcs'
      clear hcs'
      go_wp2_with fail
      go_roundw
      case measure => simp [intOf]; omega
      case rel => exact ⟨k + 1, xs ++ [x], by omega, by go_num, HX.out, by simp; omega, HO.out, hap2, HC2.out, hb'⟩
    · have hE : xs = -1 :: W := by rw [hxs.out, List.take_of_length_le (by omega)]
      subst hE
      have HO : Hid (wr.ownsRow w.heap.size 3 1 u5 (-1 :: W).length ((-1 :: W).map (Value.int .i64))) := hown
      clear hcs hc2 ha2 hb hown0 hown
      go_wp2_with fail
      go_ret
      exact ⟨_, rfl, owns_int HO.out, hbr⟩

end Go.Proofs.Ytbmlmplbhgahpaa
