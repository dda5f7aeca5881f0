import Derived.Test.YtomijmikkbhgmaaT1
namespace Go.Proofs.Ytomijmikkbhgmaa
open Go.RowKit

theorem Ev4C.lt {w : World} {b off : Nat} {x : Evt} (h : Ev4C w b off x) : b < w.heap.size := World.block_lt_of_cell? w _ h.c0
theorem Ev9C.lt {w : World} {b off : Nat} {x : Evt} (h : Ev9C w b off x) : b < w.heap.size := World.block_lt_of_cell? w _ h.c0

theorem wrs_hit {x : Evt} {loc : Int} (h1 : (x.kind == 1) = true) (h2 : (x.loc == loc) = true) (E : List Evt) (k : Nat) : wrs (x :: E) k loc = (k : Int) :: wrs E (k + 1) loc := by rw [wrs, h1, h2]; rfl
theorem wrs_mis {x : Evt} {loc : Int} (h : (x.kind == 1 && x.loc == loc) = false) (E : List Evt) (k : Nat) : wrs (x :: E) k loc = wrs E (k + 1) loc := by rw [wrs, h]; rfl

set_option maxHeartbeats 1000000 in
theorem writesP_any (E : List Evt) (hE : E.length ≤ 96) (loc : Int) (v : Value) (w : World) (h : Ev4At w v E) :
    Calls Try.prog 68 #[v, .int .i64 loc] w fun e w' => ∃ u, e = .returned u ∧ IntNew w.heap.size w' u (wrs E 0 loc) ∧ Below w.heap.size w w' := by
  obtain ⟨ao, b, off, cap, hv, ha, _, hc⟩ := h
  subst hv
  obtain ⟨i0, hi, hz0, hz1, hz2⟩ := info_parts Try.info3
  have HI : Hid (Try.prog.info? 3 = some i0 ∧ i0.zero = some (.int .i64 0) ∧ i0.size = 1 ∧ i0.bytes = 8) := ⟨hi, hz0, hz1, hz2⟩
  clear hi hz0 hz1 hz2
  go_enter Try.func68, Try.ntmps68
  go_wp2_with fail
  go_loopw [5, 10] (fun u i wr => ∃ (k : Nat) (xs : List Int), k ≤ E.length ∧ i = .int .i64 k ∧ xs.length ≤ k ∧ Hid (wrs E 0 loc = xs ++ wrs (E.drop k) k loc) ∧ wr.ownsRow w.heap.size 3 1 u xs.length (xs.map (Value.int .i64)) ∧ Below w.heap.size w wr) (fun _ i _ => E.length - (intOf i).toNat)
  case atStart => exact ⟨0, [], Nat.zero_le _, rfl, Nat.le_refl _, rfl, World.ownsRow_nil _ _ _ _, Below.refl _ _⟩
  case round =>
    obtain ⟨k, xs, hk, rfl, hxk, hn, hown, hb⟩ := hrel
    by_cases hlt : k < E.length
    · obtain ⟨x, hx⟩ := get_of_lt hlt
      have hC := hc k x hx
      have hbl := hC.lt
      obtain rfl := ha (ne_nil hlt)
      obtain ⟨c0, c1, c2, c3⟩ := ev4C_keeps _ _ _ _ _ hb hC
      have HN : Hid (wrs E 0 loc = xs ++ wrs (x :: E.drop (k + 1)) k loc) := by rw [← drop_cons hx]; exact hn
      have hsz := hb.size
      clear hn hx hc hC ha
      cases h1 : x.kind == 1
      · have HM : Hid (wrs E 0 loc = xs ++ wrs (E.drop (k + 1)) (k + 1) loc) := HN.out.trans (by rw [wrs_mis (by rw [h1]; rfl)])
        go_wp2_with fail
        go_roundw
        case measure => simp [intOf]; omega
        case rel => exact ⟨k + 1, xs, by omega, by go_num, by omega, HM.out, hown.alloc _, hb.alloc hb.size _⟩
      · cases h2 : x.loc == loc
        · have HM : Hid (wrs E 0 loc = xs ++ wrs (E.drop (k + 1)) (k + 1) loc) := HN.out.trans (by rw [wrs_mis (by rw [h1, h2]; rfl)])
          go_wp2_with fail
          go_roundw
          case measure => simp [intOf]; omega
          case rel => exact ⟨k + 1, xs, by omega, by go_num, by omega, HM.out, hown.alloc _, hb.alloc hb.size _⟩
        · have HM : Hid (wrs E 0 loc = (xs ++ [(k : Int)]) ++ wrs (E.drop (k + 1)) (k + 1) loc) := HN.out.trans (by rw [wrs_hit h1 h2]; simp)
          go_wp2_with (at_builtin; refine wpList_append_own _ rfl _ _ 37 rfl w.heap.size 3 i0 (.int .i64 0) 1 8 Try.underlying37 HI.out.1 HI.out.2.1 HI.out.2.2.1 HI.out.2.2.2 rfl (by decide) _ _ _ rfl ((hown.alloc _).alloc _) ⟨wr.heap.size + 1, 0, none⟩ 1 1 [.int .i64 k] rfl rfl (new_one (by simp)) (by simp [Value.oneCell']) (by unfold maxLen; omega) (by omega) (by simp; omega) ?_)
          intro u' w1 hown' hgrow _
          have hb' : Below w.heap.size w w1 := Below.grown ((hb.alloc hsz _).alloc (by simp; omega) _) hgrow (by simp; omega) (fun kk e => (hown.lt kk e).1)
          clear hgrow hown
          go_wp2_with fail
          go_roundw
          case measure => simp [intOf]; omega
          case rel => exact ⟨k + 1, xs ++ [(k : Int)], by omega, by go_num, by simp; omega, HM.out, own_snoc hown', hb'⟩
    · have HM : Hid (wrs E 0 loc = xs) := hn.out.trans (by rw [drop_nil hlt]; simp [wrs])
      clear hn hc ha
      go_wp2_with fail
      go_ret
      exact ⟨_, rfl, by rw [HM.out]; exact owns_int hown, hb⟩

set_option maxHeartbeats 1000000 in
theorem writesR_any (E : List Evt) (hE : E.length ≤ 96) (loc : Int) (v : Value) (w : World) (h : Ev9At w v E) :
    Calls Try.prog 63 #[v, .int .i64 loc] w fun e w' => ∃ u, e = .returned u ∧ IntNew w.heap.size w' u (wrs E 0 loc) ∧ Below w.heap.size w w' := by
  obtain ⟨ao, b, off, cap, hv, ha, _, hc⟩ := h
  subst hv
  obtain ⟨i0, hi, hz0, hz1, hz2⟩ := info_parts Try.info3
  have HI : Hid (Try.prog.info? 3 = some i0 ∧ i0.zero = some (.int .i64 0) ∧ i0.size = 1 ∧ i0.bytes = 8) := ⟨hi, hz0, hz1, hz2⟩
  clear hi hz0 hz1 hz2
  go_enter Try.func63, Try.ntmps63
  go_wp2_with fail
  go_loopw [5, 6] (fun u i wr => ∃ (k : Nat) (xs : List Int), k ≤ E.length ∧ i = .int .i64 k ∧ xs.length ≤ k ∧ Hid (wrs E 0 loc = xs ++ wrs (E.drop k) k loc) ∧ wr.ownsRow w.heap.size 3 1 u xs.length (xs.map (Value.int .i64)) ∧ Below w.heap.size w wr) (fun _ i _ => E.length - (intOf i).toNat)
  case atStart => exact ⟨0, [], Nat.zero_le _, rfl, Nat.le_refl _, rfl, World.ownsRow_nil _ _ _ _, Below.refl _ _⟩
  case round =>
    obtain ⟨k, xs, hk, rfl, hxk, hn, hown, hb⟩ := hrel
    by_cases hlt : k < E.length
    · obtain ⟨x, hx⟩ := get_of_lt hlt
      have hC := hc k x hx
      have hbl := hC.lt
      obtain rfl := ha (ne_nil hlt)
      obtain ⟨_, _, c2, c3, _, _, _, _, _⟩ := ev9C_keeps _ _ _ _ _ hb hC
      have HN : Hid (wrs E 0 loc = xs ++ wrs (x :: E.drop (k + 1)) k loc) := by rw [← drop_cons hx]; exact hn
      have hsz := hb.size
      clear hn hx hc hC ha
      cases h1 : x.kind == 1
      · have HM : Hid (wrs E 0 loc = xs ++ wrs (E.drop (k + 1)) (k + 1) loc) := HN.out.trans (by rw [wrs_mis (by rw [h1]; rfl)])
        go_wp2_with fail
        go_roundw
        case measure => simp [intOf]; omega
        case rel => exact ⟨k + 1, xs, by omega, by go_num, by omega, HM.out, hown, hb⟩
      · cases h2 : x.loc == loc
        · have HM : Hid (wrs E 0 loc = xs ++ wrs (E.drop (k + 1)) (k + 1) loc) := HN.out.trans (by rw [wrs_mis (by rw [h1, h2]; rfl)])
          go_wp2_with fail
          go_roundw
          case measure => simp [intOf]; omega
          case rel => exact ⟨k + 1, xs, by omega, by go_num, by omega, HM.out, hown, hb⟩
        · have HM : Hid (wrs E 0 loc = (xs ++ [(k : Int)]) ++ wrs (E.drop (k + 1)) (k + 1) loc) := HN.out.trans (by rw [wrs_hit h1 h2]; simp)
          go_wp2_with (at_builtin; refine wpList_append_own _ rfl _ _ 37 rfl w.heap.size 3 i0 (.int .i64 0) 1 8 Try.underlying37 HI.out.1 HI.out.2.1 HI.out.2.2.1 HI.out.2.2.2 rfl (by decide) _ _ _ rfl (hown.alloc _) ⟨wr.heap.size, 0, none⟩ 1 1 [.int .i64 k] rfl rfl (new_one rfl) (by simp [Value.oneCell']) (by unfold maxLen; omega) (by omega) (by simp; omega) ?_)
          intro u' w1 hown' hgrow _
          have hb' : Below w.heap.size w w1 := Below.grown (hb.alloc hsz _) hgrow (by simp; omega) (fun kk e => (hown.lt kk e).1)
          clear hgrow hown
          go_wp2_with fail
          go_roundw
          case measure => simp [intOf]; omega
          case rel => exact ⟨k + 1, xs ++ [(k : Int)], by omega, by go_num, by simp; omega, HM.out, own_snoc hown', hb'⟩
    · have HM : Hid (wrs E 0 loc = xs) := hn.out.trans (by rw [drop_nil hlt]; simp [wrs])
      clear hn hc ha
      go_wp2_with fail
      go_ret
      exact ⟨_, rfl, by rw [HM.out]; exact owns_int hown, hb⟩

end Go.Proofs.Ytomijmikkbhgmaa

namespace Go.Proofs.Ytomijmikkbhgmaa
open Go.RowKit

def ev4 (x : Evt) : List Value := [.int .i64 x.thread, .int .i64 x.place, .int .i64 x.kind, .int .i64 x.loc]
def ev9 (x : Evt) : List Value := [.int .i64 x.thread, .int .i64 x.place, .int .i64 x.kind, .int .i64 x.loc, .int .i64 x.ins.op, .int .i64 x.ins.loc, .int .i64 x.ins.reg, .int .i64 x.ins.val, .int .i64 x.ins.mode]

def evOf (i j : Nat) (y : Int) (x : Ins) : Evt := ⟨i, j, y, x.loc, x⟩
theorem evsK_cons (i j : Nat) (x : Ins) (y : Int) (ks : List Int) : evsK i j x (y :: ks) = evOf i j y x :: evsK i j x ks := rfl

theorem Try.infoEvent : (Try.prog.info? 79).map (fun i => (i.zero, i.size, i.bytes)) = some (some (.agg #[.int .i64 0, .int .i64 0, .int .i64 0, .int .i64 0]), 4, 32) := by kernel_rfl

theorem own_snocF {w : World} {base : Nat} {e : TypeId} {s : Nat} {v : Value} {E : List Evt} {a : Evt} {f : Evt → List Value} {news : List Value} (h : w.ownsRow base e s v (E.length + 1) (E.flatMap f ++ news)) (hn : news = f a) :
    w.ownsRow base e s v (E ++ [a]).length ((E ++ [a]).flatMap f) := by subst hn; simpa using h

theorem owns_ev4 {w : World} {base : Nat} {e : TypeId} {v : Value} {E : List Evt} (h : w.ownsRow base e 4 v E.length (E.flatMap ev4)) : Ev4At w v E := by
  obtain ⟨ao, b, off, cap, hs, _⟩ := owns_read (C := Ev4C) ev4 4 (fun _ => rfl) (fun b off x hx => ⟨hx 0 _ rfl, hx 1 _ rfl, hx 2 _ rfl, hx 3 _ rfl⟩) h
  exact ⟨ao, b, off, cap, hs⟩

theorem owns_ev9 {w : World} {base : Nat} {e : TypeId} {v : Value} {E : List Evt} (h : w.ownsRow base e 9 v E.length (E.flatMap ev9)) : Ev9At w v E := by
  obtain ⟨ao, b, off, cap, hs, _⟩ := owns_read (C := Ev9C) ev9 9 (fun _ => rfl) (fun b off x hx => ⟨hx 0 _ rfl, hx 1 _ rfl, hx 2 _ rfl, hx 3 _ rfl, hx 4 _ rfl, hx 5 _ rfl, hx 6 _ rfl, hx 7 _ rfl, hx 8 _ rfl⟩) h
  exact ⟨ao, b, off, cap, hs⟩

/-- The new cells ahead of an append of one element of several cells. -/
theorem new_many {W : World} {vs : List Value} {t : TypeId} {n : Nat} (hn : n = W.heap.size) : ∀ j u, vs[j]? = some u → (W.alloc (.cells vs.toArray t)).cell? ((⟨n, 0, none⟩ : Addr).add j) = some u := by
  intro j u hj
  subst hn
  rw [Addr.add_lit, Nat.zero_add, cell_of_row _ _ j vs.toArray t (0, 0) (heap_alloc_new W _)]
  simpa using hj

/-- .. with room for itself. -/
def Ev4Cap (w : World) (v : Value) (l : List Evt) : Prop := ∃ ao b off cap, SlAt w 4 Ev4C v l ao b off cap ∧ l.length ≤ cap
theorem Ev4Cap.at' {w : World} {v : Value} {l : List Evt} (h : Ev4Cap w v l) : Ev4At w v l := by
  obtain ⟨ao, b, off, cap, h, _⟩ := h
  exact ⟨ao, b, off, cap, h⟩
theorem Ev4Cap.keep {w w' : World} {v : Value} {l : List Evt} (h : Ev4Cap w v l) (hb : Below w.heap.size w w') : Ev4Cap w' v l := by
  obtain ⟨ao, b, off, cap, h, hc⟩ := h
  exact ⟨ao, b, off, cap, h.keep ev4C_keeps hb, hc⟩
theorem owns_ev4c {w : World} {base : Nat} {e : TypeId} {v : Value} {E : List Evt} (h : w.ownsRow base e 4 v E.length (E.flatMap ev4)) : Ev4Cap w v E := by
  obtain ⟨ao, b, off, cap, hs, _, hc⟩ := owns_read (C := Ev4C) ev4 4 (fun _ => rfl) (fun b off x hx => ⟨hx 0 _ rfl, hx 1 _ rfl, hx 2 _ rfl, hx 3 _ rfl⟩) h
  exact ⟨ao, b, off, cap, hs, hc⟩

set_option maxHeartbeats 2000000 in
theorem list_cap (T : List (List Ins)) (vt : Value) (w : World) (ht : ThrAt w vt T) (h2 : T.length ≤ 4) (hL : lensB T = true) :
    Calls Try.prog 40 #[vt] w fun e w' => ∃ u, e = .returned u ∧ Ev4Cap w' u (evsT T 0) ∧ Below w.heap.size w w' := by
  obtain ⟨ht0, ao, b, off, cap, htv, hta, _, htc⟩ := ht.opened
  subst htv
  obtain ⟨i0, hi, hz0, hz1, hz2⟩ := info_parts Try.infoEvent
  have HI : Hid (Try.prog.info? 79 = some i0 ∧ i0.zero = some (.agg #[.int .i64 0, .int .i64 0, .int .i64 0, .int .i64 0]) ∧ i0.size = 4 ∧ i0.bytes = 32) := ⟨hi, hz0, hz1, hz2⟩
  clear hi hz0 hz1 hz2
  go_enter Try.func40, Try.ntmps40
  go_wp2_with fail
  go_loopw [3, 12] (fun u i wr => ∃ (k : Nat) (E : List Evt), k ≤ T.length ∧ i = .int .i64 k ∧ Hid (evsT T 0 = E ++ evsT (T.drop k) k) ∧ E.length ≤ 24 * k ∧ wr.ownsRow w.heap.size 79 4 u E.length (E.flatMap ev4) ∧ Below w.heap.size w wr) (fun _ i _ => T.length - (intOf i).toNat)
  case atStart => exact ⟨0, [], Nat.zero_le _, rfl, rfl, Nat.le_refl _, World.ownsRow_nil _ _ _ _, Below.refl _ _⟩
  case round =>
    obtain ⟨k, E, hk, rfl, hn, hE, hown, hb⟩ := hrel
    by_cases hlt : k < T.length
    · obtain ⟨l, hx⟩ := get_of_lt hlt
      obtain ⟨hbl, ao2, cap2, c0, hil⟩ := htc k l hx
      obtain rfl := hta (ne_nil hlt)
      have hl12 := lensB_get hL hx
      have HN : Hid (evsT T 0 = E ++ (evsI k l 0 ++ evsT (T.drop (k + 1)) (k + 1))) := hn.out.trans (by rw [drop_cons hx]; rfl)
      have c1 : wr.cell? ⟨b, off + k, none⟩ = some (.slice ao2 l.length cap2) := keep_cell hb c0
      have HIL : Hid (InsAt w (.slice ao2 l.length cap2) l) := hil
      have HL : Hid (lensB T = true) := hL
      have HTC : Hid (∀ k l, T[k]? = some l → b < w.heap.size ∧ ∃ ao' cap', w.cell? ⟨b, off + k, none⟩ = some (.slice ao' l.length cap') ∧ InsAt w (.slice ao' l.length cap') l) := htc
      clear hx hn hil ht c0 hL htc hta
      generalize hR : evsT (T.drop (k + 1)) (k + 1) = R at HN
      have HR : Hid (evsT (T.drop (k + 1)) (k + 1) = R) := hR
      clear hR
      go_wp2_with fail
      go_loopw [3, 19] (fun u i wr => ∃ (j : Nat) (E : List Evt), j ≤ l.length ∧ i = .int .i64 j ∧ Hid (evsT T 0 = E ++ (evsI k (l.drop j) j ++ R)) ∧ E.length ≤ 24 * k + 2 * j ∧ wr.ownsRow w.heap.size 79 4 u E.length (E.flatMap ev4) ∧ Below w.heap.size w wr) (fun _ i _ => l.length - (intOf i).toNat)
      case atStart => exact ⟨0, E, Nat.zero_le _, rfl, HN.out, by omega, hown, hb⟩
      case round =>
        clear HN hown hb c1 hE
        obtain ⟨j, E2, hj, rfl, hn, hE2, hown, hb2⟩ := hrel
        have hsz := hb2.size
        by_cases hlt2 : j < l.length
        · obtain ⟨x, hx⟩ := get_of_lt hlt2
          obtain ⟨_, ao3, b3, off3, cap3, hv3, ha3, _, hc3⟩ := HIL.out
          have hC := hc3 j x hx
          have hbl3 := hC.lt
          obtain ⟨c0, c1, c2, c3, c4⟩ := insC_keeps _ _ _ _ _ hb2 hC
          have HN2 : Hid (evsT T 0 = E2 ++ (evsK k j x (kindsOf x.op) ++ (evsI k (l.drop (j + 1)) (j + 1) ++ R))) := hn.out.trans (by rw [drop_cons hx, evsI]; simp)
          simp only [Value.slice.injEq] at hv3
          obtain ⟨e1, _, e3⟩ := hv3
          rw [ha3 (ne_nil hlt2)] at e1
          subst e1
          clear hn hc3 hC ha3 e3 hx
          generalize hR2 : evsI k (l.drop (j + 1)) (j + 1) ++ R = R2 at HN2
          have HR2 : Hid (evsI k (l.drop (j + 1)) (j + 1) ++ R = R2) := hR2
          clear hR2
          have hkl := kindsOf_len x.op
          generalize hks : kindsOf x.op = ks at HN2 hkl
          have HKS : Hid (kindsOf x.op = ks) := hks
          clear hks
          go_wp2_with (go_at_call 65; refine (kindsP_any x.op _).mono ?_; rw [HKS.out]; rintro e w3 ⟨u2, rfl, hu2, hb3⟩; obtain ⟨ao4, b4, off4, cap4, ⟨hv4, ha4, _, hc4⟩, hb4⟩ := hu2; subst hv4)
          simp only [World.size_alloc] at hb4
          have hown3 := own_keep (hown.alloc _) hb3
          have hbw3 : Below w.heap.size w w3 := below_more (hb2.alloc hsz _) hb3
          have hap4 : some b4 ≠ u3.ownBlock := fun e => by have := (hown.lt b4 e.symm).2; omega
          have hap5 : some wr.heap.size ≠ u3.ownBlock := fun e => by have := (hown.lt _ e.symm).2; omega
          have d1 : w3.cell? ⟨wr.heap.size, 1, none⟩ = some (.int .i64 x.loc) := by
            rw [hb3.cell (by simp)]; simp
          have HC4 : Hid (∀ j y, ks[j]? = some y → w3.cell? ⟨b4, off4 + j, none⟩ = some (.int .i64 y)) := fun j y hj => by
            have := hc4 j y hj; unfold IntC at this; rwa [Nat.mul_one] at this
          clear hc4 hb3 hown hb2 c0 c1 c2 c3 c4
          generalize wr.heap.size = B7 at d1 hap5 hsz hb4 ⊢
          generalize hg0 : u3.ownBlock = g0 at hap4 hap5
          go_loopw [3, 28] (fun u i wr => ∃ (m : Nat) (E : List Evt), m ≤ ks.length ∧ i = .int .i64 m ∧ Hid (evsT T 0 = E ++ (evsK k j x (ks.drop m) ++ R2)) ∧ E.length ≤ 24 * k + 2 * j + m ∧ wr.ownsRow w.heap.size 79 4 u E.length (E.flatMap ev4) ∧ Aw w3 wr g0 u ∧ Below w.heap.size w wr) (fun _ i _ => ks.length - (intOf i).toNat)
          case atStart => exact ⟨0, E2, Nat.zero_le _, rfl, HN2.out, by omega, hown3, hg0 ▸ Aw.refl _ _, hbw3⟩
          case round =>
            obtain ⟨m, E3, hm, rfl, hn, hE3, hown, haw, hb⟩ := hrel
            clear hown3 hbw3 HN2 hg0 hE2
            have hsz3 := hb.size
            by_cases hlt3 : m < ks.length
            · obtain ⟨y, hy⟩ := get_of_lt hlt3
              obtain rfl := ha4 (ne_nil hlt3)
              have c0 := haw.cell (HC4.out m y hy) hap4
              have c1 := haw.cell d1 hap5
              have hl0 := World.block_lt_of_cell? _ _ c0
              have hl1 := World.block_lt_of_cell? _ _ c1
              have HN3 : Hid (evsT T 0 = (E3 ++ [evOf k j y x]) ++ (evsK k j x (ks.drop (m + 1)) ++ R2)) := hn.out.trans (by rw [drop_cons hy, evsK_cons]; simp)
              have HAW : Hid (Aw w3 wr g0 u3) := haw
              clear hn haw hy ha4
              go_wp2_with (at_builtin; refine append_new _ rfl _ _ 31 rfl w.heap.size 79 i0 (.agg #[.int .i64 0, .int .i64 0, .int .i64 0, .int .i64 0]) 4 32 Try.underlying31 HI.out.1 HI.out.2.1 HI.out.2.2.1 HI.out.2.2.2 rfl (by decide) _ _ _ rfl (hown.alloc _) (some ⟨wr.heap.size, 0, none⟩) 1 1 [.int .i64 k, .int .i64 j, .int .i64 y, .int .i64 x.loc] rfl (fun h => by cases h) rfl (fun ad had => by cases had; exact new_many rfl) (by simp [Value.oneCell']) (by unfold maxLen; omega) (by omega) (by simp; omega) ?_)
              intro u' w1 hown' hgrow hap'
              have hb' : Below w.heap.size w w1 := Below.grown (hb.alloc hsz3 _) hgrow (by simp; omega) (fun kk e => (hown.lt kk e).1)
              have haw' : Hid (Aw w3 w1 g0 u') := (HAW.out.below (below_alloc _ _)).grown hgrow (by simpa using hap')
              have HO : Hid (w1.ownsRow w.heap.size 79 4 u' (E3 ++ [evOf k j y x]).length ((E3 ++ [evOf k j y x]).flatMap ev4)) := own_snocF hown' rfl
              clear hgrow hown hap' HAW hown' c0 c1 hl0 hl1 hb
              go_wp2_with fail
              go_roundw
              case measure => simp [intOf]; omega
              case rel => exact ⟨m + 1, _, by omega, by go_num, HN3.out, by simp; omega, HO.out, haw'.out, hb'⟩
            · have HM : Hid (evsT T 0 = E3 ++ (evsI k (l.drop (j + 1)) (j + 1) ++ R)) := hn.out.trans (by rw [drop_nil hlt3, HR2.out]; rfl)
              clear hn haw HC4 d1
              go_wp2_with fail
              go_roundw
              case measure => simp [intOf]; omega
              case rel => exact ⟨j + 1, E3, by omega, by go_num, HM.out, by omega, hown, hb⟩
        · have HM : Hid (evsT T 0 = E2 ++ evsT (T.drop (k + 1)) (k + 1)) := hn.out.trans (by rw [drop_nil hlt2, HR.out]; rfl)
          clear hn
          go_wp2_with fail
          go_roundw
          case measure => simp [intOf]; omega
          case rel => exact ⟨k + 1, E2, by omega, by go_num, HM.out, by omega, hown, hb2⟩
    · have HM : Hid (evsT T 0 = E) := hn.out.trans (by rw [drop_nil hlt]; simp [evsT])
      clear hn htc hta ht
      go_wp2_with fail
      go_ret
      exact ⟨_, rfl, by rw [HM.out]; exact owns_ev4c hown, hb⟩

theorem list_any (T : List (List Ins)) (vt : Value) (w : World) (ht : ThrAt w vt T) (h2 : T.length ≤ 4) (hL : lensB T = true) :
    Calls Try.prog 40 #[vt] w fun e w' => ∃ u, e = .returned u ∧ Ev4At w' u (evsT T 0) ∧ Below w.heap.size w w' := by
  refine (list_cap T vt w ht h2 hL).mono ?_
  rintro e w' ⟨u, he, hu, hb⟩
  exact ⟨u, he, hu.at', hb⟩

end Go.Proofs.Ytomijmikkbhgmaa
