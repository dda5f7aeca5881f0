import Derived.Test.YtomijmikkbhgmaaGreatSe
import Derived.Test.YtomijmikkbhgmaaGreatSb
import Derived.Test.YtomijmikkbhgmaaGreatOe
import Derived.Test.YtomijmikkbhgmaaGreatT41
import Derived.Test.YtomijmikkbhgmaaGreatT43
import Derived.Test.YtomijmikkbhgmaaGreatT37
namespace Go.Proofs.YtomijmikkbhgmaaGreat
open Go.RowKit

theorem OptV.other {w w' : World} {v : Value} {o : Option (List Int)} (h : OptV w v o) (hs : ∀ b : Nat, v.ownBlock = some b → w'.heap[b]? = w.heap[b]?) : OptV w' v o := by
  cases o with
  | none => exact h
  | some l => exact ⟨h.1.other hs, h.2⟩
theorem OptV.keep {w w' : World} {v : Value} {o : Option (List Int)} (h : OptV w v o) (hb : Below w.heap.size w w') : OptV w' v o := by
  cases o with
  | none => exact h
  | some l => exact ⟨h.1.keep hb, h.2⟩
theorem optC_keeps : Keeps OptC := fun _ _ _ _ _ hb ⟨u, h1, h2⟩ => ⟨u, keep_cell hb h1, h2.keep hb⟩
theorem OptAt.keep {w w' : World} {v : Value} {L : List (Option (List Int))} (h : OptAt w v L) (hb : Below w.heap.size w w') : OptAt w' v L := by
  obtain ⟨ao, b, off, cap, h⟩ := h
  exact ⟨ao, b, off, cap, h.keep optC_keeps hb⟩

/-- A row of states, or nil, of the call's own. -/
structure OL (w : World) (base : Nat) (V : Value) (L : List (Option (List Int))) (vs : List Value) : Prop where
  len : vs.length = L.length
  own : w.ownsRow base 26 1 V L.length vs
  rows : ∀ (j : Nat) (x : Option (List Int)), L[j]? = some x → ∃ u, vs[j]? = some u ∧ OptV w u x ∧ ∀ b, u.ownBlock = some b → base ≤ b ∧ b < w.heap.size ∧ V.ownBlock ≠ some b

theorem OL.nil (w : World) (base : Nat) : OL w base (.slice none 0 0) [] [] := ⟨rfl, World.ownsRow_nil _ _ _ _, fun j x h => by simp at h⟩

theorem OL.other {w w' : World} {base : Nat} {V : Value} {L : List (Option (List Int))} {vs : List Value} (h : OL w base V L vs) (hsz : w.heap.size ≤ w'.heap.size) (hs : ∀ b : Nat, base ≤ b → b < w.heap.size → w'.heap[b]? = w.heap[b]?) : OL w' base V L vs := by
  refine ⟨h.len, own_other h.own (fun b hb => hs b (h.own.lt b hb).1 (h.own.lt b hb).2), fun j x hx => ?_⟩
  obtain ⟨u, h1, h2, h3⟩ := h.rows j x hx
  exact ⟨u, h1, h2.other (fun b hb => hs b (h3 b hb).1 (h3 b hb).2.1), fun b hb => ⟨(h3 b hb).1, Nat.lt_of_lt_of_le (h3 b hb).2.1 hsz, (h3 b hb).2.2⟩⟩
theorem OL.keep {w w' : World} {base : Nat} {V : Value} {L : List (Option (List Int))} {vs : List Value} (h : OL w base V L vs) (hb : Below w.heap.size w w') : OL w' base V L vs := h.other hb.size (fun b _ hb2 => hb.block b hb2)

theorem OL.snoc {w w2 : World} {base : Nat} {V V' : Value} {L : List (Option (List Int))} {vs : List Value} (h : OL w base V L vs) {x : Option (List Int)} {u : Value} {o : Obj} (hu : OptV w u x)
    (hub : ∀ b, u.ownBlock = some b → base ≤ b ∧ b < w.heap.size ∧ V.ownBlock ≠ some b) (hown : w2.ownsRow base 26 1 V' (L.length + 1) (vs ++ [u])) (hg : (w.alloc o).grownBy w2 V.ownBlock)
    (hap : ∀ g, V'.ownBlock = some g → V.ownBlock = some g ∨ w.heap.size + 1 ≤ g) : OL w2 base V' (L ++ [x]) (vs ++ [u]) := by
  have hsz : w.heap.size + 1 ≤ w2.heap.size := by have := hg.size; simpa using this
  have key : ∀ b : Nat, b < w.heap.size → V.ownBlock ≠ some b → w2.heap[b]? = w.heap[b]? := by
    intro b hb hne
    rw [hg.block b (by simp; omega) (fun e => hne e.symm), Below.heap_alloc _ _ _ hb]
  refine ⟨by simp [h.len], by simpa using hown, fun j y hy => ?_⟩
  by_cases hj : j < L.length
  · rw [List.getElem?_append_left hj] at hy
    obtain ⟨z, h1, h2, h3⟩ := h.rows j y hy
    refine ⟨z, by rw [List.getElem?_append_left (by rw [h.len]; exact hj)]; exact h1, h2.other (fun b hb => key b (h3 b hb).2.1 (h3 b hb).2.2), fun b hb => ?_⟩
    have h4 := (h3 b hb).2.1
    refine ⟨(h3 b hb).1, by omega, fun e => ?_⟩
    rcases hap b e with e' | e'
    · exact (h3 b hb).2.2 e'
    · omega
  · have hjL : j = L.length := by
      have := (List.getElem?_eq_some_iff.1 hy).1
      simp at this; omega
    subst hjL
    rw [List.getElem?_append_right (Nat.le_refl _), Nat.sub_self] at hy
    simp at hy
    subst hy
    refine ⟨u, by rw [List.getElem?_append_right (by rw [h.len]; exact Nat.le_refl _), h.len]; simp, hu.other (fun b hb => key b (hub b hb).2.1 (hub b hb).2.2), fun b hb => ?_⟩
    have h4 := (hub b hb).2.1
    refine ⟨(hub b hb).1, by omega, fun e => ?_⟩
    rcases hap b e with e' | e'
    · exact (hub b hb).2.2 e'
    · omega

theorem OL.read {w : World} {base : Nat} {V : Value} {L : List (Option (List Int))} {vs : List Value} (h : OL w base V L vs) : OptAt w V L := by
  rcases h.own.2 with ⟨hv, hn⟩ | ⟨g, cap, cur, hv, hg, hh, _⟩
  · have h0 : L = [] := List.eq_nil_of_length_eq_zero hn
    subst h0
    exact ⟨none, base, 0, 0, hv, fun h => absurd rfl h, fun _ => ⟨rfl, rfl⟩, fun k x h => by simp at h⟩
  · refine ⟨_, g, 0, cap, hv, fun _ => rfl, fun h => by simp at h, fun k x hk => ?_⟩
    obtain ⟨u, h1, h2, h3⟩ := h.rows k x hk
    have := h.own.cells (g := g) (by rw [hv]; rfl) k u h1
    rw [Addr.add_lit] at this
    rw [Nat.mul_one]
    exact ⟨u, this, h2⟩

/-- Is an execution allowed? -/
def Alw (T : List (List Ins)) (E : List Evt) (x : Exe) : Prop := JudIs (Cyc E.length (cohA E x)) (tornB E x) (Cyc E.length (kepA T E x)) (¬ Parts E.length (mtL (thoL 2 E 0) (thoL 3 E 0) (thoL 4 E 0)) (kepA T E x)) 0
/-- Which candidates are allowed. -/
def Als (T : List (List Ins)) (E : List Evt) (al : Nat → Bool) : Prop := ∀ n, n < sizeN E → (al n = true ↔ Alw T E (exN E n))
theorem als_ex (T : List (List Ins)) (E : List Evt) : ∃ al, Als T E al := by
  refine ⟨fun n => @decide (Alw T E (exN E n)) (Classical.propDecidable _), fun n _ => ?_⟩
  simp

def optL (al : Nat → Bool) (T : List (List Ins)) (E : List Evt) (N : Nat) : List (Option (List Int)) := (List.range N).map fun n => if al n then some (stX T E (exN E n)) else none
theorem optL_len (al : Nat → Bool) (T : List (List Ins)) (E : List Evt) (N : Nat) : (optL al T E N).length = N := by unfold optL; simp
theorem optL_step (al : Nat → Bool) (T : List (List Ins)) (E : List Evt) (N : Nat) : optL al T E (N + 1) = optL al T E N ++ [if al N then some (stX T E (exN E N)) else none] := by unfold optL; rw [List.range_succ, List.map_append]; rfl

theorem JudIs.zero {P : Prop} {t : Bool} {Q S : Prop} {r : Int} (h : JudIs P t Q S r) : r = 0 ↔ JudIs P t Q S 0 := ⟨fun e => by rw [e] at h; exact h, fun k => h.one k⟩

theorem alw_cyc {T : List (List Ins)} {E : List Evt} {x : Exe} (h : Alw T E x) : ¬ Cyc E.length (kepA T E x) := by
  rcases h with ⟨h, _⟩ | ⟨_, ⟨h, _⟩ | ⟨_, ⟨h, _⟩ | ⟨h, _⟩⟩⟩
  · cases h
  · cases h
  · cases h
  · exact h

theorem JudIs.ex (P : Prop) (t : Bool) (Q S : Prop) : ∃ r, JudIs P t Q S r := by
  by_cases h1 : P
  · exact ⟨1, .inl ⟨rfl, h1⟩⟩
  · cases ht : t
    · by_cases h3 : Q
      · exact ⟨3, .inr ⟨h1, .inr ⟨rfl, .inl ⟨rfl, h3⟩⟩⟩⟩
      · by_cases h4 : S
        · exact ⟨4, .inr ⟨h1, .inr ⟨rfl, .inr ⟨h3, .inl ⟨rfl, h4⟩⟩⟩⟩⟩
        · exact ⟨0, .inr ⟨h1, .inr ⟨rfl, .inr ⟨h3, .inr ⟨h4, rfl⟩⟩⟩⟩⟩
    · exact ⟨2, .inr ⟨h1, .inl ⟨rfl, rfl⟩⟩⟩

theorem IntNew.own {B : Nat} {w : World} {v : Value} {l : List Int} (h : IntNew B w v l) (hl : l ≠ []) : ∀ b, v.ownBlock = some b → B ≤ b ∧ b < w.heap.size := by
  obtain ⟨ao, b, off, cap, ⟨hv, ha, _, hc⟩, hB, _⟩ := h
  intro g hg
  rw [hv, ha hl] at hg
  have : b = g := by simpa [Value.ownBlock] using hg
  subst this
  obtain ⟨x, hx⟩ : ∃ x, l[0]? = some x := by
    cases l with
    | nil => exact absurd rfl hl
    | cons a l => exact ⟨a, rfl⟩
  exact ⟨hB, World.block_lt_of_cell? _ _ (hc 0 x hx)⟩

set_option maxRecDepth 20000 in
set_option maxHeartbeats 4000000 in
theorem all_any (T : List (List Ins)) (fa : Bool) (c : List Atm) (hz : ((chk T c).1 == 0) = true) (al : Nat → Bool) (hal : Als T (evsT T 0) al) (vt vc : Value) (w : World) (h : TestAt w (.agg #[vt, .bool fa, vc]) T fa c vt vc) :
    Calls Tryz.prog 46 #[.agg #[vt, .bool fa, vc]] w fun e w' => ∃ u s, e = .returned (.tuple #[u, s]) ∧ XAt w' u (exs (evsT T 0)) ∧ OptAt w' s (optL al T (evsT T 0) (sizeN (evsT T 0))) ∧ Below w.heap.size w w' := by
  have hF := fits_of hz
  have hM := mts_of hz
  have hN := chk_many_no hz
  have HEV : Hid (∀ w', Below w.heap.size w w' → Calls Tryz.prog 42 #[.agg #[vt, .bool fa, vc]] w' fun e w'' => ∃ u, e = .returned u ∧ Ev9At w'' u (evsT T 0) ∧ Below w'.heap.size w' w'') := fun w' hb => events_any T fa c _ vt vc w' (h.keep hb) hF.short.t4 hF.lens
  have HCD : Hid (∀ u w', Ev9At w' u (evsT T 0) → Calls Tryz.prog 94 #[u] w' fun e w'' => ∃ v, e = .returned v ∧ XAt w'' v (exs (evsT T 0)) ∧ Below w'.heap.size w' w'') := fun u w' hu => candidates_any (evsT T 0) hF.el u w' hu hN
  have hin := evsIn_T T
  obtain ⟨rj, hrj⟩ : ∃ rj : Nat → Int, ∀ n, JudIs (Cyc (evsT T 0).length (cohA (evsT T 0) (exN (evsT T 0) n))) (tornB (evsT T 0) (exN (evsT T 0) n)) (Cyc (evsT T 0).length (kepA T (evsT T 0) (exN (evsT T 0) n))) (¬ Parts (evsT T 0).length (mtL (thoL 2 (evsT T 0) 0) (thoL 3 (evsT T 0) 0) (thoL 4 (evsT T 0) 0)) (kepA T (evsT T 0) (exN (evsT T 0) n))) (rj n) :=
    ⟨fun n => Classical.choose (JudIs.ex _ _ _ _), fun n => Classical.choose_spec (JudIs.ex _ _ _ _)⟩
  have HRZ : Hid (∀ n, n < sizeN (evsT T 0) → (rj n == 0) = al n) := fun n hn => by
    rw [Bool.eq_iff_iff, hal n hn, beq_iff_eq]
    exact (hrj n).zero
  have HJD : Hid (∀ n u vf vo w', Below w.heap.size w w' → Ev9At w' u (evsT T 0) → ExeC w' vf vo (exN (evsT T 0) n) → Calls Tryz.prog 56 #[.agg #[vt, .bool fa, vc], u, .agg #[vf, vo]] w' fun e w'' => e = .returned (.int .i64 (rj n)) ∧ Below w'.heap.size w' w'') := fun n u vf vo w' hb hu hx => by
    refine (judge_any T hF.short fa c vt vc (evsT T 0) hF.el hin hF.locs hM (exN (evsT T 0) n) ((exN_isEx _ n).xok hF.el hF.locs) u vf vo w' (h.keep hb) hu hx).mono ?_
    rintro e w'' ⟨r, he, hj, hb'⟩
    exact ⟨by rw [he, hj.one (hrj n)], hb'⟩
  have HST : Hid (∀ n u vf vo w', Below w.heap.size w w' → Ev9At w' u (evsT T 0) → ExeAt w' vf vo (exN (evsT T 0) n) → Calls Tryz.prog 41 #[.agg #[vt, .bool fa, vc], u, .agg #[vf, vo]] w' fun e w'' => ∃ v, e = .returned v ∧ IntNew w'.heap.size w'' v (stX T (evsT T 0) (exN (evsT T 0) n)) ∧ Below w'.heap.size w' w'') := fun n u vf vo w' hb hu hx => by
    have hxx := exN_isEx (evsT T 0) n
    refine state_any T hF.short.t4 fa c vt vc (evsT T 0) hF.el (exN (evsT T 0) n) hxx.f hxx.evI.1 hxx.o3 (fun l hl => ⟨?_, hxx.evI.2 l hl⟩) u vf vo w' (h.keep hb) hu hx
    obtain ⟨j, hj⟩ := List.mem_iff_getElem?.1 hl
    exact hxx.len hF.el hj
  have HXS : Hid ((exs (evsT T 0)).length = sizeN (evsT T 0) ∧ ∀ n, n < sizeN (evsT T 0) → (exs (evsT T 0))[n]? = some (exN (evsT T 0) n)) := ⟨exs_len _, fun n hn => exs_at _ n hn⟩
  have HOL : Hid (∀ k, (optL al T (evsT T 0) k).length = k ∧ optL al T (evsT T 0) (k + 1) = optL al T (evsT T 0) k ++ [if al k then some (stX T (evsT T 0) (exN (evsT T 0) k)) else none]) := fun k => ⟨optL_len _ _ _ _, optL_step _ _ _ _⟩
  have HO0 : Hid (optL al T (evsT T 0) 0 = []) := rfl
  have HNE : Hid (∀ n, stX T (evsT T 0) (exN (evsT T 0) n) ≠ []) := fun n => stX_ne _ _ _
  clear hrj hal hz hM hin
  generalize evsT T 0 = E at *
  generalize optL al T E = OS at *
  generalize exs E = XS at *
  generalize sizeN E = N at *
  obtain ⟨i1, hi, hz0, hz1, hz2⟩ := info_parts Tryz.infoInts
  have HI : Hid (Tryz.prog.info? 26 = some i1 ∧ i1.zero = some (.slice none 0 0) ∧ i1.size = 1 ∧ i1.bytes = 24) := ⟨hi, hz0, hz1, hz2⟩
  clear hi hz0 hz1 hz2 h hF
  go_enter Tryz.func46, Tryz.ntmps46
  go_wp2_with fail
  have hba := below_alloc w (.cells #[vt, .bool fa, vc] 25)
  refine (HEV.out _ hba).mono ?_
  rintro e w2 ⟨ue, rfl, hue, hb2⟩
  have hbw2 := below_more hba hb2
  have HUE : Hid (Ev9At w2 ue E) := hue
  have t0 := keep_cell hb2 (b := w.heap.size) (off := 0) (u := vt) (by simp)
  have t1 := keep_cell hb2 (b := w.heap.size) (off := 1) (u := .bool fa) (by simp)
  have t2 := keep_cell hb2 (b := w.heap.size) (off := 2) (u := vc) (by simp)
  clear hue hb2
  go_wp2_with fail
  refine (HCD.out ue w2 HUE.out).mono ?_
  rintro e w3 ⟨uc, rfl, huc, hb3⟩
  obtain ⟨aoC, bC, offC, capC, hsC⟩ := huc
  have hvC := hsC.hv
  rw [HXS.out.1] at hvC
  subst hvC
  have HSC : Hid (SlAt w3 2 XC (.slice aoC N capC) XS aoC bC offC capC) := hsC
  have HUE3 : Hid (Ev9At w3 ue E) := HUE.out.keep hb3
  have hbw3 := below_more hbw2 hb3
  have HK : Hid (∀ w', Below w3.heap.size w3 w' → w'.cell? ⟨w.heap.size, 0, none⟩ = some vt ∧ w'.cell? ⟨w.heap.size, 1, none⟩ = some (.bool fa) ∧ w'.cell? ⟨w.heap.size, 2, none⟩ = some vc) := fun w' hb => ⟨keep_cell hb (keep_cell hb3 t0), keep_cell hb (keep_cell hb3 t1), keep_cell hb (keep_cell hb3 t2)⟩
  clear hsC t0 t1 t2 hbw2 HUE hba
  go_wp2_with fail
  go_loopw [6, 7] (fun u i wr => ∃ (k : Nat) (vs : List Value), k ≤ N ∧ i = .int .i64 k ∧ Hid (OL wr w3.heap.size u (OS k) vs) ∧ Below w3.heap.size w3 wr) (fun _ i _ => N - (intOf i).toNat)
  case atStart => exact ⟨0, [], Nat.zero_le _, rfl, by show OL _ _ _ _ _; rw [HO0.out]; exact OL.nil _ _, Below.refl _ _⟩
  case round =>
    clear HO0
    obtain ⟨k, vs, hk, rfl, hOL, hb⟩ := hrel
    have hbw := below_more hbw3 hb
    by_cases hlt : k < N
    · obtain ⟨vf, vo, c0, c1, hxc⟩ := HSC.out.hc k _ (HXS.out.2 k hlt)
      have haC := HSC.out.ha (by intro h0; have := HXS.out.1; rw [h0] at this; simp at this; omega)
      subst haC
      have HXC : Hid (ExeC w3 vf vo (exN E k)) := hxc
      obtain ⟨t0, t1, t2⟩ := HK.out wr hb
      have HJ1 : Hid (∀ w', Below wr.heap.size wr w' → Calls Tryz.prog 56 #[.agg #[vt, .bool fa, vc], ue, .agg #[vf, vo]] w' fun e w'' => e = .returned (.int .i64 (rj k)) ∧ Below w'.heap.size w' w'') := fun w' hb' => HJD.out k ue vf vo w' (below_more hbw hb') (HUE3.out.keep (below_more hb hb')) (HXC.out.keep (below_more hb hb'))
      have HS1 : Hid (∀ w', Below wr.heap.size wr w' → Calls Tryz.prog 41 #[.agg #[vt, .bool fa, vc], ue, .agg #[vf, vo]] w' fun e w'' => ∃ v, e = .returned v ∧ IntNew w'.heap.size w'' v (stX T E (exN E k)) ∧ Below w'.heap.size w' w'') := fun w' hb' => HST.out k ue vf vo w' (below_more hbw hb') (HUE3.out.keep (below_more hb hb')) (HXC.out.at'.keep (below_more hb hb'))
      have hrz := HRZ.out k hlt
      obtain ⟨hol0, hol1⟩ := HOL.out k
      have HO1 : Hid (OS (k + 1) = OS k ++ [if al k then some (stX T E (exN E k)) else none]) := hol1
      have hne := HNE.out k
      have HNK : Hid (stX T E (exN E k) ≠ []) := hne
      generalize stX T E (exN E k) = st at HS1 HO1 HNK
      generalize rj k = r at HJ1 hrz
      have hkI : (k : Int) < (N : Int) := by omega
      have d0 := keep_cell hb c0
      have d1 := keep_cell hb c1
      have HOK := hOL
      clear c0 c1 hxc hol1 hne hOL
      go_wp2_with fail
      have g0 := grown_cell t0
      have g1 := grown_cell t1
      have g2 := grown_cell t2
      have g3 := grown_cell d0
      have g4 := grown_cell d1
      have hnw := grw_some wr
      refine wp_region_grown (by kernel_rfl) (by kernel_rfl) ?_
      repeat (go_big_quiet_step ((go_at_call 56; exact grown_call (HJ1.out _ (Grw.low _)))))
      refine wpQuiet_nil ?_
      intro w7 hw7
      obtain ⟨⟨w7', hb7⟩, rfl⟩ := hw7
      replace t0 := keep_cell hb7 t0
      replace t1 := keep_cell hb7 t1
      replace t2 := keep_cell hb7 t2
      replace d0 := keep_cell hb7 d0
      replace d1 := keep_cell hb7 d1
      have hb37 := below_more hb hb7
      have hs7 := hb37.size
      have HO7 : Hid (OL w7 w3.heap.size u6 (OS k) vs) := HOK.out.keep hb7
      have HL7 : Hid (w7.ownsRow w3.heap.size 26 1 u6 k vs) := by have := HO7.out.own; rw [hol0] at this; exact this
      clear g0 g1 g2 g3 g4 HJ1 HOK hnw
      cases hr : r == 0
      · have hr2 : (r != 0) = true := by simp [bne, hr]
        have hak : al k = false := by rw [← hrz]; exact hr
        clear t0 t1 t2 d0 d1 HS1
        go_wp2_with (at_builtin; refine append_new _ rfl _ _ 27 rfl w3.heap.size 26 i1 (.slice none 0 0) 1 24 Tryz.underlying27 HI.out.1 HI.out.2.1 HI.out.2.2.1 HI.out.2.2.2 rfl (by decide) u6 k vs rfl (HL7.out.alloc _) (some ⟨w7.heap.size, 0, none⟩) 1 1 [.slice none 0 0] rfl (fun h => by cases h) rfl (fun ad had => by cases had; exact new_one rfl) (by simp [Value.oneCell']) (by unfold maxLen; omega) (by omega) (by simp; omega) ?_)
        intro V8 w8 hown8 hgrow8 hap8
        have HO8 : Hid (OL w8 w3.heap.size V8 (OS (k + 1)) (vs ++ [.slice none 0 0])) := by
          show OL _ _ _ _ _
          rw [HO1.out, hak]
          exact HO7.out.snoc (x := none) rfl (fun b hb => by simp [Value.ownBlock] at hb) (by rw [hol0]; exact hown8) hgrow8 (by simpa using hap8)
        have HB8 : Hid (Below w3.heap.size w3 w8) := Below.grown (hb37.alloc hs7 _) hgrow8 (by simp; omega) (fun kk e => (HL7.out.lt kk e).1)
        clear hown8 hgrow8 hap8
        go_wp2_with fail
        go_roundw
        case measure => simp [intOf]; omega
        case rel => exact ⟨k + 1, _, by omega, by go_num, HO8.out, HB8.out⟩
      · have hr2 : (r != 0) = false := by simp [bne, hr]
        have hak : al k = true := by rw [← hrz]; exact hr
        go_upto_region 10 with fail
        go_region_with (go_at_call 41; refine (HS1.out _ hb7.drew).mono ?_; rintro e w8 ⟨v8, rfl, hv8, hb8⟩)
        all_goals
          have hb78 : Below w7.heap.size w7 w8 := (Below.refl _ w7).drew.trans hb8
          have HO8 : Hid (OL w8 w3.heap.size u6 (OS k) vs) := HO7.out.keep hb78
          have HL8 : Hid (w8.ownsRow w3.heap.size 26 1 u6 k vs) := own_keep HL7.out hb78
          have hV7 := HL7.out.lt
          have HV8 : Hid (OptV w8 v8 (some st) ∧ ∀ b, v8.ownBlock = some b → w3.heap.size ≤ b ∧ b < w8.heap.size ∧ u6.ownBlock ≠ some b) := ⟨⟨hv8.at', HNK.out⟩, fun b hbb => by
            obtain ⟨q1, q2⟩ := hv8.own HNK.out b hbb
            simp only [World.size_drew] at q1
            exact ⟨by omega, q2, fun e => by have := (hV7 b e).2; omega⟩⟩
          have hb38 := below_more hb37 hb78
          have hs8 := hb38.size
          obtain ⟨a8, cap8, hf8⟩ := OptV.form HV8.out.1
          clear t0 t1 t2 d0 d1 HS1 hv8 hb8 hV7
          subst hf8
          go_wp2_with (at_builtin; refine append_new _ rfl _ _ 27 rfl w3.heap.size 26 i1 (.slice none 0 0) 1 24 Tryz.underlying27 HI.out.1 HI.out.2.1 HI.out.2.2.1 HI.out.2.2.2 rfl (by decide) u6 k vs rfl (HL8.out.alloc _) (some ⟨w8.heap.size, 0, none⟩) 1 1 [.slice (some a8) st.length cap8] rfl (fun h => by cases h) rfl (fun ad had => by cases had; exact new_one rfl) (by simp [Value.oneCell']) (by unfold maxLen; omega) (by omega) (by simp; omega) ?_)
          intro V9 w9 hown9 hgrow9 hap9
          have HO9 : Hid (OL w9 w3.heap.size V9 (OS (k + 1)) (vs ++ [.slice (some a8) st.length cap8])) := by
            show OL _ _ _ _ _
            rw [HO1.out, hak]
            exact HO8.out.snoc (x := some st) HV8.out.1 HV8.out.2 (by rw [hol0]; exact hown9) hgrow9 (by simpa using hap9)
          have HB9 : Hid (Below w3.heap.size w3 w9) := Below.grown (hb38.alloc hs8 _) hgrow9 (by simp; omega) (fun kk e => (HL8.out.lt kk e).1)
          clear hown9 hgrow9 hap9
          go_wp2_with fail
          go_roundw
          case measure => simp [intOf]; omega
          case rel => exact ⟨k + 1, _, by omega, by go_num, HO9.out, HB9.out⟩
    · have hkN : k = N := by omega
      have HOK : Hid (OptAt wr u6 (OS N)) := by have := hOL.out.read; rw [hkN] at this; exact this
      have hkI : (N : Int) ≤ (k : Int) := by omega
      clear hkN hOL
      go_wp2_with fail
      go_ret2
      exact ⟨_, _, rfl, ⟨_, bC, offC, capC, HSC.out.keep xc_keeps hb⟩, HOK.out, hbw⟩

end Go.Proofs.YtomijmikkbhgmaaGreat
