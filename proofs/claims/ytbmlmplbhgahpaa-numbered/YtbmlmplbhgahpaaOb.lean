import Derived.Test.YtbmlmplbhgahpaaPex
namespace Go.Proofs.Ytbmlmplbhgahpaa
open Go.RowKit

/-- The reads: their numbers, and they themselves. -/
def rdsX : List Evt → Nat → List (Nat × Evt)
  | [], _ => []
  | x :: E, i => if x.kind == 0 then (i, x) :: rdsX E (i + 1) else rdsX E (i + 1)
def rdsI (E : List Evt) (i : Nat) : List Int := (rdsX E i).map fun p => (p.1 : Int)

theorem rdsX_hit {x : Evt} (h : (x.kind == 0) = true) (E : List Evt) (i : Nat) : rdsX (x :: E) i = (i, x) :: rdsX E (i + 1) := by rw [rdsX, if_pos h]
theorem rdsX_mis {x : Evt} (h : (x.kind == 0) = false) (E : List Evt) (i : Nat) : rdsX (x :: E) i = rdsX E (i + 1) := by rw [rdsX, if_neg (by simp [h])]

theorem rdo_eq (E R : List Evt) (i : Nat) : rdo E R = (rdsX R i).map fun p => -1 :: wrs E 0 p.2.loc := by
  induction R generalizing i with
  | nil => rfl
  | cons x R ih =>
    cases h : x.kind == 0
    · rw [rdsX_mis h, rdo, if_neg (by simp [h])]; exact ih (i + 1)
    · rw [rdsX_hit h, rdo, if_pos h, List.map_cons, ih (i + 1)]

theorem rdsX_get {R : List Evt} {i : Nat} {p : Nat × Evt} (h : p ∈ rdsX R i) : i ≤ p.1 ∧ R[p.1 - i]? = some p.2 := by
  induction R generalizing i with
  | nil => simp [rdsX] at h
  | cons x R ih =>
    have key : p ∈ rdsX R (i + 1) → i ≤ p.1 ∧ (x :: R)[p.1 - i]? = some p.2 := by
      intro hp
      obtain ⟨h1, h2⟩ := ih hp
      refine ⟨by omega, ?_⟩
      rw [show p.1 - i = (p.1 - (i + 1)) + 1 by omega]
      simpa using h2
    cases hk : x.kind == 0
    · rw [rdsX_mis hk] at h; exact key h
    · rw [rdsX_hit hk] at h
      rcases List.mem_cons.1 h with rfl | h
      · simp
      · exact key h

theorem rdsX_len (R : List Evt) (i : Nat) : (rdsX R i).length ≤ R.length := by
  induction R generalizing i with
  | nil => simp [rdsX]
  | cons x R ih => have := ih (i + 1); unfold rdsX; split <;> simp <;> omega

set_option maxHeartbeats 1000000 in
theorem reads_any (E : List Evt) (hE : E.length ≤ 96) (v : Value) (w : World) (h : Ev9At w v E) :
    Calls Try.prog 60 #[v] w fun e w' => ∃ u, e = .returned u ∧ IntNew w.heap.size w' u (rdsI E 0) ∧ Below w.heap.size w w' := by
  obtain ⟨ao, b, off, cap, hv, ha, _, hc⟩ := h
  subst hv
  obtain ⟨i0, hi, hz0, hz1, hz2⟩ := info_parts Try.info3
  have HI : Hid (Try.prog.info? 3 = some i0 ∧ i0.zero = some (.int .i64 0) ∧ i0.size = 1 ∧ i0.bytes = 8) := ⟨hi, hz0, hz1, hz2⟩
  clear hi hz0 hz1 hz2
  go_enter Try.func60, Try.ntmps60
  go_wp2_with fail
  go_loopw [3, 4] (fun u i wr => ∃ (k : Nat) (xs : List Int), k ≤ E.length ∧ i = .int .i64 k ∧ xs.length ≤ k ∧ Hid (rdsI E 0 = xs ++ rdsI (E.drop k) k) ∧ wr.ownsRow w.heap.size 3 1 u xs.length (xs.map (Value.int .i64)) ∧ Below w.heap.size w wr) (fun _ i _ => E.length - (intOf i).toNat)
  case atStart => exact ⟨0, [], Nat.zero_le _, rfl, Nat.le_refl _, rfl, World.ownsRow_nil _ _ _ _, Below.refl _ _⟩
  case round =>
    obtain ⟨k, xs, hk, rfl, hxk, hn, hown, hb⟩ := hrel
    have hsz := hb.size
    by_cases hlt : k < E.length
    · obtain ⟨x, hx⟩ := get_of_lt hlt
      have hC := hc k x hx
      have hbl := hC.lt
      obtain rfl := ha (ne_nil hlt)
      obtain ⟨_, _, c2, _, _, _, _, _, _⟩ := ev9C_keeps _ _ _ _ _ hb hC
      have HN : Hid (rdsI E 0 = xs ++ rdsI (x :: E.drop (k + 1)) k) := by rw [← drop_cons hx]; exact hn
      have HC : Hid (∀ k x, E[k]? = some x → Ev9C w b (off + k * 9) x) := hc
      clear hn hx hc hC ha
      cases h1 : x.kind == 0
      · have HM : Hid (rdsI E 0 = xs ++ rdsI (E.drop (k + 1)) (k + 1)) := HN.out.trans (by unfold rdsI; rw [rdsX_mis h1])
        go_wp2_with fail
        go_roundw
        case measure => simp [intOf]; omega
        case rel => exact ⟨k + 1, xs, by omega, by go_num, by omega, HM.out, hown, hb⟩
      · have HM : Hid (rdsI E 0 = (xs ++ [(k : Int)]) ++ rdsI (E.drop (k + 1)) (k + 1)) := HN.out.trans (by unfold rdsI; rw [rdsX_hit h1]; simp)
        go_wp2_with (at_builtin; refine append_new _ rfl (.tmp 17) (.tmp 19) 37 rfl w.heap.size 3 i0 (.int .i64 0) 1 8 Try.underlying37 HI.out.1 HI.out.2.1 HI.out.2.2.1 HI.out.2.2.2 rfl (by decide) u3 xs.length (xs.map (Value.int .i64)) rfl (hown.alloc _) (some ⟨wr.heap.size, 0, none⟩) 1 1 [.int .i64 k] rfl (fun h => by cases h) rfl (fun ad had => by cases had; exact new_one rfl) (by simp [Value.oneCell']) (by unfold maxLen; omega) (by omega) (by simp; omega) ?_)
        intro u' w1 hown' hgrow _
        have hb' : Below w.heap.size w w1 := Below.grown (hb.alloc hsz _) hgrow (by simp; omega) (fun kk e => (hown.lt kk e).1)
        have HO : Hid (w1.ownsRow w.heap.size 3 1 u' (xs ++ [(k : Int)]).length ((xs ++ [(k : Int)]).map (Value.int .i64))) := own_snoc hown'
        clear hgrow hown hown'
        go_wp2_with fail
        go_roundw
        case measure => simp [intOf]; omega
        case rel => exact ⟨k + 1, xs ++ [(k : Int)], by omega, by go_num, by simp; omega, HM.out, HO.out, hb'⟩
    · have HM : Hid (rdsI E 0 = xs) := hn.out.trans (by rw [drop_nil hlt]; simp [rdsI, rdsX])
      clear hn hc ha
      go_wp2_with fail
      go_ret
      exact ⟨_, rfl, by rw [HM.out]; exact owns_int hown, hb⟩

theorem int_cells {w : World} {v : Value} {l : List Int} {ao : Option Addr} {b off cap : Nat} (h : SlAt w 1 IntC v l ao b off cap) : ∀ ad, ao = some ad → ∀ j u, (l.map (Value.int .i64))[j]? = some u → w.cell? (ad.add j) = some u := by
  intro ad had j u hj
  rw [List.getElem?_map] at hj
  obtain ⟨x, hx, rfl⟩ := Option.map_eq_some_iff.1 hj
  have hk : j < l.length := (List.getElem?_eq_some_iff.1 hx).1
  rw [h.ha (ne_nil hk)] at had
  cases had
  have hC := h.hc j x hx
  unfold IntC at hC
  rw [Nat.mul_one] at hC
  rw [Addr.add_lit]; exact hC

set_option maxHeartbeats 1000000 in
theorem longer_any (l : List Int) (hl : l.length ≤ 100000) (x : Int) (v : Value) (w : World) (h : IntAt w v l) :
    Calls Try.prog 61 #[v, .int .i64 x] w fun e w' => ∃ u, e = .returned u ∧ IntOwn w.heap.size w' u (l ++ [x]) ∧ Below w.heap.size w w' := by
  obtain ⟨ao, b, off, cap, hs⟩ := h
  have hv := hs.hv
  subst hv
  have HS : Hid (SlAt w 1 IntC (.slice ao l.length cap) l ao b off cap) := hs
  clear hs
  obtain ⟨i0, hi, hz0, hz1, hz2⟩ := info_parts Try.info3
  have HI : Hid (Try.prog.info? 3 = some i0 ∧ i0.zero = some (.int .i64 0) ∧ i0.size = 1 ∧ i0.bytes = 8) := ⟨hi, hz0, hz1, hz2⟩
  clear hi hz0 hz1 hz2
  go_enter Try.func61, Try.ntmps61
  go_wp2_with (at_builtin; refine append_new _ rfl (.tmp 6) (.tmp 7) 37 rfl w.heap.size 3 i0 (.int .i64 0) 1 8 Try.underlying37 HI.out.1 HI.out.2.1 HI.out.2.2.1 HI.out.2.2.2 rfl (by decide) (.slice none 0 0) 0 [] rfl (World.ownsRow_nil _ _ _ _) ao l.length cap (l.map (Value.int .i64)) rfl (fun h => ⟨by rw [(HS.out.hn h).1]; rfl, (HS.out.hn h).2⟩) (by simp) (int_cells HS.out) (ints_oneCell .i64 l) (by unfold maxLen; omega) (by omega) (Nat.le_refl _) ?_)
  intro v1 w1 hown1 hgrow1 _
  have hb1 : Below w.heap.size w w1 := Below.grown (Below.refl _ _) hgrow1 (Nat.le_refl _) (fun kk e => by simp [Value.ownBlock] at e)
  have hw1 : w1.ownsRow w.heap.size 3 1 v1 l.length (l.map (Value.int .i64)) := by simpa using hown1
  have hs1 := hb1.size
  clear hown1 hgrow1
  go_wp2_with (at_builtin; refine append_new _ rfl (.tmp 9) (.tmp 11) 37 rfl w.heap.size 3 i0 (.int .i64 0) 1 8 Try.underlying37 HI.out.1 HI.out.2.1 HI.out.2.2.1 HI.out.2.2.2 rfl (by decide) v1 l.length (l.map (Value.int .i64)) rfl (hw1.alloc _) (some ⟨w1.heap.size, 0, none⟩) 1 1 [.int .i64 x] rfl (fun h => by cases h) rfl (fun ad had => by cases had; exact new_one rfl) (by simp [Value.oneCell']) (by unfold maxLen; omega) (by omega) (by simp; omega) ?_)
  intro v2 w2 hown2 hgrow2 _
  have hb2 : Below w.heap.size w w2 := Below.grown (hb1.alloc hs1 _) hgrow2 (by simp; omega) (fun kk e => (hw1.lt kk e).1)
  have hw2 : w2.ownsRow w.heap.size 3 1 v2 (l ++ [x]).length ((l ++ [x]).map (Value.int .i64)) := own_snoc hown2
  clear hown2 hgrow2 hw1
  go_wp2_with fail
  go_ret
  exact ⟨_, rfl, owns_own hw2, hb2⟩

end Go.Proofs.Ytbmlmplbhgahpaa
