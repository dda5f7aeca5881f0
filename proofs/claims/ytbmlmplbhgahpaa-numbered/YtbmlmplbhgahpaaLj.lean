import Derived.Test.YtbmlmplbhgahpaaOwn
namespace Go.Proofs.Ytbmlmplbhgahpaa
open Go.RowKit

theorem Ev4C.lt {w : World} {b off : Nat} {x : Evt} (h : Ev4C w b off x) : b < w.heap.size := World.block_lt_of_cell? w _ h.c0
theorem Ev9C.lt {w : World} {b off : Nat} {x : Evt} (h : Ev9C w b off x) : b < w.heap.size := World.block_lt_of_cell? w _ h.c0

theorem wrs_hit {x : Evt} {loc : Int} (h1 : (x.kind == 1) = true) (h2 : (x.loc == loc) = true) (E : List Evt) (k : Nat) : wrs (x :: E) k loc = (k : Int) :: wrs E (k + 1) loc := by rw [wrs, h1, h2]; rfl
theorem wrs_mis {x : Evt} {loc : Int} (h : (x.kind == 1 && x.loc == loc) = false) (E : List Evt) (k : Nat) : wrs (x :: E) k loc = wrs E (k + 1) loc := by rw [wrs, h]; rfl

set_option maxHeartbeats 1000000 in
theorem writesP_any (E : List Evt) (hE : E.length ≤ 96) (loc : Int) (v : Value) (w : World) (h : Ev4At w v E) :
    Calls Try.prog 49 #[v, .int .i64 loc] w fun e w' => ∃ u, e = .returned u ∧ IntNew w.heap.size w' u (wrs E 0 loc) ∧ Below w.heap.size w w' := by
  obtain ⟨ao, b, off, cap, hv, ha, _, hc⟩ := h
  subst hv
  obtain ⟨i0, hi, hz0, hz1, hz2⟩ := info_parts Try.info3
  have HI : Hid (Try.prog.info? 3 = some i0 ∧ i0.zero = some (.int .i64 0) ∧ i0.size = 1 ∧ i0.bytes = 8) := ⟨hi, hz0, hz1, hz2⟩
  clear hi hz0 hz1 hz2
  go_enter Try.func49, Try.ntmps49
  go_wp2_with fail
  go_loopw [5, 10] (fun u i wr => ∃ (k : Nat) (xs : List Int), k ≤ E.length ∧ i = .int .i64 k ∧ xs.length ≤ k ∧ Hid (wrs E 0 loc = xs ++ wrs (E.drop k) k loc) ∧ wr.ownsRow w.heap.size 3 1 u xs.length (xs.map (Value.int .i64)) ∧ Below w.heap.size w wr) (fun _ i _ => E.length - (intOf i).toNat)
  case atStart => exact ⟨0, [], Nat.zero_le _, rfl, Nat.le_refl _, rfl, World.ownsRow_nil _ _ _ _, Below.refl _ _⟩
  case round =>
    obtain ⟨k, xs, hk, rfl, hxk, hn, hown, hb⟩ := hrel
    by_cases hlt : k < E.length
    · obtain ⟨x, hx⟩ := get_of_lt hlt
      have hC := hc k x hx
      have hbl := hC.lt
      obtain rfl := ha (ne_nil hlt)
      obtain ⟨c0, c1, c2, c3⟩ := ev4C_keeps _ _ _ _ _ hb hC
      have HN : Hid (wrs E 0 loc = xs ++ wrs (x :: E.drop (k + 1)) k loc) := by rw [← drop_cons hx]; exact hn
      have hsz := hb.size
      clear hn hx hc hC ha
      cases h1 : x.kind == 1
      · have HM : Hid (wrs E 0 loc = xs ++ wrs (E.drop (k + 1)) (k + 1) loc) := HN.out.trans (by rw [wrs_mis (by rw [h1]; rfl)])
        go_wp2_with fail
        go_roundw
        case measure => simp [intOf]; omega
        case rel => exact ⟨k + 1, xs, by omega, by go_num, by omega, HM.out, hown.alloc _, hb.alloc hb.size _⟩
      · cases h2 : x.loc == loc
        · have HM : Hid (wrs E 0 loc = xs ++ wrs (E.drop (k + 1)) (k + 1) loc) := HN.out.trans (by rw [wrs_mis (by rw [h1, h2]; rfl)])
          go_wp2_with fail
          go_roundw
          case measure => simp [intOf]; omega
          case rel => exact ⟨k + 1, xs, by omega, by go_num, by omega, HM.out, hown.alloc _, hb.alloc hb.size _⟩
        · have HM : Hid (wrs E 0 loc = (xs ++ [(k : Int)]) ++ wrs (E.drop (k + 1)) (k + 1) loc) := HN.out.trans (by rw [wrs_hit h1 h2]; simp)
          go_wp2_with (at_builtin; refine wpList_append_own _ rfl _ _ 37 rfl w.heap.size 3 i0 (.int .i64 0) 1 8 Try.underlying37 HI.out.1 HI.out.2.1 HI.out.2.2.1 HI.out.2.2.2 rfl (by decide) _ _ _ rfl ((hown.alloc _).alloc _) ⟨wr.heap.size + 1, 0, none⟩ 1 1 [.int .i64 k] rfl rfl (new_one (by simp)) (by simp [Value.oneCell']) (by unfold maxLen; omega) (by omega) (by simp; omega) ?_)
          intro u' w1 hown' hgrow _
          have hb' : Below w.heap.size w w1 := Below.grown ((hb.alloc hsz _).alloc (by simp; omega) _) hgrow (by simp; omega) (fun kk e => (hown.lt kk e).1)
          clear hgrow hown
          go_wp2_with fail
          go_roundw
          case measure => simp [intOf]; omega
          case rel => exact ⟨k + 1, xs ++ [(k : Int)], by omega, by go_num, by simp; omega, HM.out, own_snoc hown', hb'⟩
    · have HM : Hid (wrs E 0 loc = xs) := hn.out.trans (by rw [drop_nil hlt]; simp [wrs])
      clear hn hc ha
      go_wp2_with fail
      go_ret
      exact ⟨_, rfl, by rw [HM.out]; exact owns_int hown, hb⟩

set_option maxHeartbeats 1000000 in
theorem writesR_any (E : List Evt) (hE : E.length ≤ 96) (loc : Int) (v : Value) (w : World) (h : Ev9At w v E) :
    Calls Try.prog 44 #[v, .int .i64 loc] w fun e w' => ∃ u, e = .returned u ∧ IntNew w.heap.size w' u (wrs E 0 loc) ∧ Below w.heap.size w w' := by
  obtain ⟨ao, b, off, cap, hv, ha, _, hc⟩ := h
  subst hv
  obtain ⟨i0, hi, hz0, hz1, hz2⟩ := info_parts Try.info3
  have HI : Hid (Try.prog.info? 3 = some i0 ∧ i0.zero = some (.int .i64 0) ∧ i0.size = 1 ∧ i0.bytes = 8) := ⟨hi, hz0, hz1, hz2⟩
  clear hi hz0 hz1 hz2
  go_enter Try.func44, Try.ntmps44
  go_wp2_with fail
  go_loopw [5, 6] (fun u i wr => ∃ (k : Nat) (xs : List Int), k ≤ E.length ∧ i = .int .i64 k ∧ xs.length ≤ k ∧ Hid (wrs E 0 loc = xs ++ wrs (E.drop k) k loc) ∧ wr.ownsRow w.heap.size 3 1 u xs.length (xs.map (Value.int .i64)) ∧ Below w.heap.size w wr) (fun _ i _ => E.length - (intOf i).toNat)
  case atStart => exact ⟨0, [], Nat.zero_le _, rfl, Nat.le_refl _, rfl, World.ownsRow_nil _ _ _ _, Below.refl _ _⟩
  case round =>
    obtain ⟨k, xs, hk, rfl, hxk, hn, hown, hb⟩ := hrel
    by_cases hlt : k < E.length
    · obtain ⟨x, hx⟩ := get_of_lt hlt
      have hC := hc k x hx
      have hbl := hC.lt
      obtain rfl := ha (ne_nil hlt)
      obtain ⟨_, _, c2, c3, _, _, _, _, _⟩ := ev9C_keeps _ _ _ _ _ hb hC
      have HN : Hid (wrs E 0 loc = xs ++ wrs (x :: E.drop (k + 1)) k loc) := by rw [← drop_cons hx]; exact hn
      have hsz := hb.size
      clear hn hx hc hC ha
      cases h1 : x.kind == 1
      · have HM : Hid (wrs E 0 loc = xs ++ wrs (E.drop (k + 1)) (k + 1) loc) := HN.out.trans (by rw [wrs_mis (by rw [h1]; rfl)])
        go_wp2_with fail
        go_roundw
        case measure => simp [intOf]; omega
        case rel => exact ⟨k + 1, xs, by omega, by go_num, by omega, HM.out, hown, hb⟩
      · cases h2 : x.loc == loc
        · have HM : Hid (wrs E 0 loc = xs ++ wrs (E.drop (k + 1)) (k + 1) loc) := HN.out.trans (by rw [wrs_mis (by rw [h1, h2]; rfl)])
          go_wp2_with fail
          go_roundw
          case measure => simp [intOf]; omega
          case rel => exact ⟨k + 1, xs, by omega, by go_num, by omega, HM.out, hown, hb⟩
        · have HM : Hid (wrs E 0 loc = (xs ++ [(k : Int)]) ++ wrs (E.drop (k + 1)) (k + 1) loc) := HN.out.trans (by rw [wrs_hit h1 h2]; simp)
          go_wp2_with (at_builtin; refine wpList_append_own _ rfl _ _ 37 rfl w.heap.size 3 i0 (.int .i64 0) 1 8 Try.underlying37 HI.out.1 HI.out.2.1 HI.out.2.2.1 HI.out.2.2.2 rfl (by decide) _ _ _ rfl (hown.alloc _) ⟨wr.heap.size, 0, none⟩ 1 1 [.int .i64 k] rfl rfl (new_one rfl) (by simp [Value.oneCell']) (by unfold maxLen; omega) (by omega) (by simp; omega) ?_)
          intro u' w1 hown' hgrow _
          have hb' : Below w.heap.size w w1 := Below.grown (hb.alloc hsz _) hgrow (by simp; omega) (fun kk e => (hown.lt kk e).1)
          clear hgrow hown
          go_wp2_with fail
          go_roundw
          case measure => simp [intOf]; omega
          case rel => exact ⟨k + 1, xs ++ [(k : Int)], by omega, by go_num, by simp; omega, HM.out, own_snoc hown', hb'⟩
    · have HM : Hid (wrs E 0 loc = xs) := hn.out.trans (by rw [drop_nil hlt]; simp [wrs])
      clear hn hc ha
      go_wp2_with fail
      go_ret
      exact ⟨_, rfl, by rw [HM.out]; exact owns_int hown, hb⟩

end Go.Proofs.Ytbmlmplbhgahpaa
