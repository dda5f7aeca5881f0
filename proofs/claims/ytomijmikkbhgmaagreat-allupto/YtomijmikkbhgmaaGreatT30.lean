import Derived.Test.YtomijmikkbhgmaaGreatT29
import Derived.Test.YtomijmikkbhgmaaGreatT23
import Derived.Test.YtomijmikkbhgmaaGreatT26
import Derived.Test.YtomijmikkbhgmaaGreatOe
import Derived.Test.YtomijmikkbhgmaaGreatT25
namespace Go.Proofs.YtomijmikkbhgmaaGreat
open Go.RowKit

/-- The state of an execution. -/
def stX (T : List (List Ins)) (E : List Evt) (x : Exe) : List Int := staL T.length E (frS E x) x

theorem stX_len (T : List (List Ins)) (E : List Evt) (x : Exe) : (stX T E x).length = 3 * T.length + 3 := staL_len _ _ _ _
theorem stX_ne (T : List (List Ins)) (E : List Evt) (x : Exe) : stX T E x ≠ [] := by
  intro h
  have := stX_len T E x
  rw [h] at this
  simp at this

/-- What State tells. -/
def StOut (T : List (List Ins)) (c : List Atm) (x : Exe) (w : World) (u : Value) (er : Int) : Prop := ∃ r jr, JOut T c x r jr ∧
  ((jr ≠ 0 ∧ er = jr ∧ u = .slice none 0 0) ∨ (jr = 0 ∧ r ≠ 0 ∧ er = 8 ∧ u = .slice none 0 0) ∨ (jr = 0 ∧ r = 0 ∧ er = 0 ∧ T.length ≤ 4 ∧ IntAt w u (stX T (evsT T 0) x)))

theorem StOut.same {T : List (List Ins)} {c : List Atm} {x : Exe} {w w' : World} {u u' : Value} {er er' : Int} (h : StOut T c x w u er) (k : StOut T c x w' u' er') : er = er' ∧ ∃ l, l.length ≤ 100 ∧ IntAt w u l ∧ IntAt w' u' l := by
  obtain ⟨r, jr, hj, h⟩ := h
  obtain ⟨r', jr', kj, k⟩ := k
  obtain ⟨rfl, rfl⟩ := hj.one kj
  have hl := stX_len T (evsT T 0) x
  have n1 : ∀ w, IntAt w (.slice none 0 0) [] := fun w => (intCap_nil w).at'
  rcases h with ⟨h1, h2, rfl⟩ | ⟨h1, h2, h3, rfl⟩ | ⟨h1, h2, h3, h4, h5⟩ <;> rcases k with ⟨k1, k2, rfl⟩ | ⟨k1, k2, k3, rfl⟩ | ⟨k1, k2, k3, k4, k5⟩ <;>
  first
    | exact absurd k1 h1
    | exact absurd h1 k1
    | exact absurd k2 h2
    | exact absurd h2 k2
    | exact ⟨h2.trans k2.symm, [], by simp, n1 _, n1 _⟩
    | exact ⟨h3.trans k3.symm, [], by simp, n1 _, n1 _⟩
    | exact ⟨h3.trans k3.symm, _, by omega, h5, k5⟩

theorem JOut.ok {T : List (List Ins)} {c : List Atm} {x : Exe} {r : Int} (h : JOut T c x r 0) : ((chk T c).1 == 0) = true ∧ exeB (evsT T 0) x = true ∧ JudIs (Cyc (evsT T 0).length (cohA (evsT T 0) x)) (tornB (evsT T 0) x) (Cyc (evsT T 0).length (kepA T (evsT T 0) x)) (¬ Parts (evsT T 0).length (mtL (thoL 2 (evsT T 0) 0) (thoL 3 (evsT T 0) 0) (thoL 4 (evsT T 0) 0)) (kepA T (evsT T 0) x)) r := by
  rcases h with ⟨h1, _, h3⟩ | ⟨h1, ⟨_, _, h4⟩ | ⟨h2, _, h4⟩⟩
  · exact absurd h3.symm h1
  · cases h4
  · exact ⟨by simpa using h1, h2, h4⟩

theorem JudIs.cyc0 {P : Prop} {t : Bool} {Q S : Prop} (h : JudIs P t Q S 0) : ¬ Q := by
  rcases h with ⟨h, _⟩ | ⟨_, ⟨h, _⟩ | ⟨_, ⟨h, _⟩ | ⟨h, _⟩⟩⟩
  · cases h
  · cases h
  · cases h
  · exact h

/-- The same, its list a new one. -/
def StOutN (B : Nat) (T : List (List Ins)) (c : List Atm) (x : Exe) (w : World) (u : Value) (er : Int) : Prop := ∃ r jr, JOut T c x r jr ∧
  ((jr ≠ 0 ∧ er = jr ∧ u = .slice none 0 0) ∨ (jr = 0 ∧ r ≠ 0 ∧ er = 8 ∧ u = .slice none 0 0) ∨ (jr = 0 ∧ r = 0 ∧ er = 0 ∧ T.length ≤ 4 ∧ IntNew B w u (stX T (evsT T 0) x)))
theorem StOutN.at' {B : Nat} {T : List (List Ins)} {c : List Atm} {x : Exe} {w : World} {u : Value} {er : Int} (h : StOutN B T c x w u er) : StOut T c x w u er := by
  obtain ⟨r, jr, hj, h | h | ⟨h1, h2, h3, h4, h5⟩⟩ := h
  · exact ⟨r, jr, hj, .inl h⟩
  · exact ⟨r, jr, hj, .inr (.inl h)⟩
  · exact ⟨r, jr, hj, .inr (.inr ⟨h1, h2, h3, h4, h5.at'⟩)⟩

/-- The same, its list in a block of its own. -/
def StOutF (B : Nat) (T : List (List Ins)) (c : List Atm) (x : Exe) (w : World) (u : Value) (er : Int) : Prop := ∃ r jr, JOut T c x r jr ∧
  ((jr ≠ 0 ∧ er = jr ∧ u = .slice none 0 0) ∨ (jr = 0 ∧ r ≠ 0 ∧ er = 8 ∧ u = .slice none 0 0) ∨ (jr = 0 ∧ r = 0 ∧ er = 0 ∧ T.length ≤ 4 ∧ IntF B w u (stX T (evsT T 0) x)))
theorem StOutF.new {B : Nat} {T : List (List Ins)} {c : List Atm} {x : Exe} {w : World} {u : Value} {er : Int} (h : StOutF B T c x w u er) : StOutN B T c x w u er := by
  obtain ⟨r, jr, hj, h | h | ⟨h1, h2, h3, h4, h5⟩⟩ := h
  · exact ⟨r, jr, hj, .inl h⟩
  · exact ⟨r, jr, hj, .inr (.inl h)⟩
  · exact ⟨r, jr, hj, .inr (.inr ⟨h1, h2, h3, h4, h5.new⟩)⟩

set_option maxRecDepth 20000 in
set_option maxHeartbeats 2000000 in
theorem stateP_own (T : List (List Ins)) (fa : Bool) (c : List Atm) (vt vc : Value) (x : Exe) (vf vo : Value) (w : World) (h : TestAt w (.agg #[vt, .bool fa, vc]) T fa c vt vc) (hx : ExeAt w vf vo x) :
    Calls Tryz.prog 16 #[.agg #[vt, .bool fa, vc], .agg #[vf, vo]] w fun e w' => ∃ (u : Value) (er : Int), e = .returned (.tuple #[u, .int .i64 er]) ∧ StOutF w.heap.size T c x w' u er ∧ Below w.heap.size w w' := by
  have HJ : Hid (∀ w', Below w.heap.size w w' → Calls Tryz.prog 30 #[.agg #[vt, .bool fa, vc], .agg #[vf, vo]] w' fun e w'' => ∃ r er : Int, e = .returned (.tuple #[.int .i64 r, .int .i64 er]) ∧ JOut T c x r er ∧ Below w'.heap.size w' w'') := fun w' hb => judgeP_any T fa c vt vc x vf vo w' (h.keep hb) (hx.keep hb)
  have HLS : Hid (∀ w', JOut T c x 0 0 → Below w.heap.size w w' → Calls Tryz.prog 39 #[vt] w' fun e w'' => ∃ u, e = .returned u ∧ Ev4At w'' u (evsT T 0) ∧ Below w'.heap.size w' w'') := fun w' hj hb => by
    have hF := fits_of hj.ok.1
    refine (list_cap T vt w' (h.ht.keep hb) hF.short.t4 hF.lens).mono ?_
    rintro e w'' ⟨u, he, hu, hb'⟩
    exact ⟨u, he, hu.at', hb'⟩
  have HOF : Hid (∀ (u : Value) (w' : World), JOut T c x 0 0 → Below w.heap.size w w' → Ev4At w' u (evsT T 0) → Calls Tryz.prog 40 #[vt, u, .agg #[vf, vo]] w' fun e w'' => ∃ v, e = .returned v ∧ (T.length ≤ 4 ∧ IntF w.heap.size w'' v (stX T (evsT T 0) x)) ∧ Below w'.heap.size w' w'') := fun u w' hj hb hu => by
    obtain ⟨hz, hxb, hjj⟩ := hj.ok
    have hF := fits_of hz
    have hxx := isEx_of hxb
    refine (stateOf_own T hF.short vt (evsT T 0) hF.el (evsIn_T T) x hxx u vf vo w' (h.ht.keep hb) hu (hx.keep hb)).mono ?_
    rintro e w'' ⟨v, he, hv, hb'⟩
    rw [sta_same rfl hF.el hF.locs hxx hjj.cyc0] at hv
    exact ⟨v, he, ⟨hF.short.t4, own_base hv hb.size⟩, hb'⟩
  have HSO : Hid (∀ w' u er, StOutF w.heap.size T c x w' u er ↔ ∃ r jr, JOut T c x r jr ∧ ((jr ≠ 0 ∧ er = jr ∧ u = .slice none 0 0) ∨ (jr = 0 ∧ r ≠ 0 ∧ er = 8 ∧ u = .slice none 0 0) ∨ (jr = 0 ∧ r = 0 ∧ er = 0 ∧ T.length ≤ 4 ∧ IntF w.heap.size w' u (stX T (evsT T 0) x)))) := fun _ _ _ => Iff.rfl
  generalize StOutF w.heap.size T c x = SO at HSO ⊢
  generalize stX T (evsT T 0) x = st at HSO HOF
  generalize evsT T 0 = E at HLS HOF
  generalize JOut T c x = J at HJ HLS HOF HSO
  clear h hx
  go_enter Tryz.func16, Tryz.ntmps16
  go_wp2_with fail
  have hba := below_two w (.cells #[vt, .bool fa, vc] 25) (.cells #[vf, vo] 29)
  refine (HJ.out _ hba).mono ?_
  rintro e w3 ⟨r, jr, rfl, hjr, hb3⟩
  have hbw3 := below_more hba hb3
  have t0 := keep_cell hb3 (b := w.heap.size) (off := 0) (u := vt) (by simp)
  have x0 := keep_cell hb3 (b := w.heap.size + 1) (off := 0) (u := vf) (by simp)
  have x1 := keep_cell hb3 (b := w.heap.size + 1) (off := 1) (u := vo) (by simp)
  have HJR : Hid (J r jr) := hjr
  clear hjr hb3 HJ
  cases hz : jr == 0
  · have hz2 : (jr != 0) = true := by simp [bne, hz]
    have hz3 : jr ≠ 0 := by simpa using hz
    go_wp2_with fail
    go_ret2
    exact ⟨_, _, rfl, (HSO.out _ _ _).2 ⟨r, jr, HJR.out, .inl ⟨hz3, rfl, rfl⟩⟩, hbw3⟩
  · have hz2 : (jr != 0) = false := by simp [bne, hz]
    have hz3 : jr = 0 := by simpa using hz
    subst hz3
    cases hr : r == 0
    · have hr2 : (r != 0) = true := by simp [bne, hr]
      have hr3 : r ≠ 0 := by simpa using hr
      go_wp2_with fail
      go_ret2
      exact ⟨_, _, rfl, (HSO.out _ _ _).2 ⟨r, 0, HJR.out, .inr (.inl ⟨rfl, hr3, rfl, rfl⟩)⟩, hbw3⟩
    · have hr3 : r = 0 := by simpa using hr
      subst hr3
      go_wp2_with fail
      refine (HLS.out w3 HJR.out hbw3).mono ?_
      rintro e w5 ⟨u5, rfl, hu5, hb5⟩
      have hbw5 := below_more hbw3 hb5
      replace t0 := keep_cell hb5 t0
      replace x0 := keep_cell hb5 x0
      replace x1 := keep_cell hb5 x1
      have HU5 : Hid (Ev4At w5 u5 E) := hu5
      clear hu5 hb5 HLS
      go_wp2_with fail
      refine (HOF.out u5 w5 HJR.out hbw5 HU5.out).mono ?_
      rintro e w6 ⟨v6, rfl, hv6, hb6⟩
      have HV6 : Hid (T.length ≤ 4 ∧ IntF w.heap.size w6 v6 st) := hv6
      have hbw6 := below_more hbw5 hb6
      clear hv6 t0 x0 x1 hb6
      go_wp2_with fail
      go_ret2
      exact ⟨_, _, rfl, (HSO.out _ _ _).2 ⟨0, 0, HJR.out, .inr (.inr ⟨rfl, rfl, rfl, HV6.out.1, HV6.out.2⟩)⟩, hbw6⟩

theorem stateR_any (T : List (List Ins)) (fa : Bool) (c : List Atm) (vt vc : Value) (x : Exe) (vf vo : Value) (w : World) (h : TestAt w (.agg #[vt, .bool fa, vc]) T fa c vt vc) (hx : ExeC w vf vo x) :
    Calls Tryz.prog 19 #[.agg #[vt, .bool fa, vc], .agg #[vf, vo]] w fun e w' => ∃ (u : Value) (er : Int), e = .returned (.tuple #[u, .int .i64 er]) ∧ StOut T c x w' u er ∧ Below w.heap.size w w' := by
  refine (stateR_of T fa c vt vc x vf vo w h hx.at' (JOut T c x) (fun w' hb => judgeR_any T fa c vt vc x vf vo w' (h.keep hb) (hx.keep hb)) (fun r hr => ?_)).mono ?_
  · obtain ⟨hz, hxb, _⟩ := hr.ok
    have hF := fits_of hz
    exact ⟨hF.short.t4, hF.lens, hF.el, isEx_of hxb⟩
  · rintro e w' ⟨r, jr, u, er, he, hj, hs, hb⟩
    refine ⟨u, er, he, ⟨r, jr, hj, ?_⟩, hb⟩
    rcases hs with hs | hs | ⟨h1, h2, h3, h4⟩
    · exact .inl hs
    · exact .inr (.inl hs)
    · subst h1
      exact .inr (.inr ⟨rfl, h2, h3, (fits_of hj.ok.1).short.t4, h4.at'⟩)

end Go.Proofs.YtomijmikkbhgmaaGreat

namespace Go.Proofs.YtomijmikkbhgmaaGreat
open Go.RowKit

theorem OptV.other {w w' : World} {v : Value} {o : Option (List Int)} (h : OptV w v o) (hs : ∀ b : Nat, v.ownBlock = some b → w'.heap[b]? = w.heap[b]?) : OptV w' v o := by
  cases o with
  | none => exact h
  | some l => exact ⟨h.1.other hs, h.2⟩
theorem OptV.keep {w w' : World} {v : Value} {o : Option (List Int)} (h : OptV w v o) (hb : Below w.heap.size w w') : OptV w' v o := by
  cases o with
  | none => exact h
  | some l => exact ⟨h.1.keep hb, h.2⟩
theorem optC_keeps : Keeps OptC := fun _ _ _ _ _ hb ⟨u, h1, h2⟩ => ⟨u, keep_cell hb h1, h2.keep hb⟩
theorem OptAt.keep {w w' : World} {v : Value} {L : List (Option (List Int))} (h : OptAt w v L) (hb : Below w.heap.size w w') : OptAt w' v L := by
  obtain ⟨ao, b, off, cap, h⟩ := h
  exact ⟨ao, b, off, cap, h.keep optC_keeps hb⟩

/-- A row of states, or nil, of the call's own. -/
structure OL (w : World) (base : Nat) (V : Value) (L : List (Option (List Int))) (vs : List Value) : Prop where
  len : vs.length = L.length
  own : w.ownsRow base 26 1 V L.length vs
  rows : ∀ (j : Nat) (x : Option (List Int)), L[j]? = some x → ∃ u, vs[j]? = some u ∧ OptV w u x ∧ ∀ b, u.ownBlock = some b → base ≤ b ∧ b < w.heap.size ∧ V.ownBlock ≠ some b

theorem OL.nil (w : World) (base : Nat) : OL w base (.slice none 0 0) [] [] := ⟨rfl, World.ownsRow_nil _ _ _ _, fun j x h => by simp at h⟩

theorem OL.other {w w' : World} {base : Nat} {V : Value} {L : List (Option (List Int))} {vs : List Value} (h : OL w base V L vs) (hsz : w.heap.size ≤ w'.heap.size) (hs : ∀ b : Nat, base ≤ b → b < w.heap.size → w'.heap[b]? = w.heap[b]?) : OL w' base V L vs := by
  refine ⟨h.len, own_other h.own (fun b hb => hs b (h.own.lt b hb).1 (h.own.lt b hb).2), fun j x hx => ?_⟩
  obtain ⟨u, h1, h2, h3⟩ := h.rows j x hx
  exact ⟨u, h1, h2.other (fun b hb => hs b (h3 b hb).1 (h3 b hb).2.1), fun b hb => ⟨(h3 b hb).1, Nat.lt_of_lt_of_le (h3 b hb).2.1 hsz, (h3 b hb).2.2⟩⟩
theorem OL.keep {w w' : World} {base : Nat} {V : Value} {L : List (Option (List Int))} {vs : List Value} (h : OL w base V L vs) (hb : Below w.heap.size w w') : OL w' base V L vs := h.other hb.size (fun b _ hb2 => hb.block b hb2)

theorem OL.snoc {w w2 : World} {base : Nat} {V V' : Value} {L : List (Option (List Int))} {vs : List Value} (h : OL w base V L vs) {x : Option (List Int)} {u : Value} {o : Obj} (hu : OptV w u x)
    (hub : ∀ b, u.ownBlock = some b → base ≤ b ∧ b < w.heap.size ∧ V.ownBlock ≠ some b) (hown : w2.ownsRow base 26 1 V' (L.length + 1) (vs ++ [u])) (hg : (w.alloc o).grownBy w2 V.ownBlock)
    (hap : ∀ g, V'.ownBlock = some g → V.ownBlock = some g ∨ w.heap.size + 1 ≤ g) : OL w2 base V' (L ++ [x]) (vs ++ [u]) := by
  have hsz : w.heap.size + 1 ≤ w2.heap.size := by have := hg.size; simpa using this
  have key : ∀ b : Nat, b < w.heap.size → V.ownBlock ≠ some b → w2.heap[b]? = w.heap[b]? := by
    intro b hb hne
    rw [hg.block b (by simp; omega) (fun e => hne e.symm), Below.heap_alloc _ _ _ hb]
  refine ⟨by simp [h.len], by simpa using hown, fun j y hy => ?_⟩
  by_cases hj : j < L.length
  · rw [List.getElem?_append_left hj] at hy
    obtain ⟨z, h1, h2, h3⟩ := h.rows j y hy
    refine ⟨z, by rw [List.getElem?_append_left (by rw [h.len]; exact hj)]; exact h1, h2.other (fun b hb => key b (h3 b hb).2.1 (h3 b hb).2.2), fun b hb => ?_⟩
    have h4 := (h3 b hb).2.1
    refine ⟨(h3 b hb).1, by omega, fun e => ?_⟩
    rcases hap b e with e' | e'
    · exact (h3 b hb).2.2 e'
    · omega
  · have hjL : j = L.length := by
      have := (List.getElem?_eq_some_iff.1 hy).1
      simp at this; omega
    subst hjL
    rw [List.getElem?_append_right (Nat.le_refl _), Nat.sub_self] at hy
    simp at hy
    subst hy
    refine ⟨u, by rw [List.getElem?_append_right (by rw [h.len]; exact Nat.le_refl _), h.len]; simp, hu.other (fun b hb => key b (hub b hb).2.1 (hub b hb).2.2), fun b hb => ?_⟩
    have h4 := (hub b hb).2.1
    refine ⟨(hub b hb).1, by omega, fun e => ?_⟩
    rcases hap b e with e' | e'
    · exact (hub b hb).2.2 e'
    · omega

theorem OL.read {w : World} {base : Nat} {V : Value} {L : List (Option (List Int))} {vs : List Value} (h : OL w base V L vs) : OptAt w V L := by
  rcases h.own.2 with ⟨hv, hn⟩ | ⟨g, cap, cur, hv, hg, hh, _⟩
  · have h0 : L = [] := List.eq_nil_of_length_eq_zero hn
    subst h0
    exact ⟨none, base, 0, 0, hv, fun h => absurd rfl h, fun _ => ⟨rfl, rfl⟩, fun k x h => by simp at h⟩
  · refine ⟨_, g, 0, cap, hv, fun _ => rfl, fun h => by simp at h, fun k x hk => ?_⟩
    obtain ⟨u, h1, h2, h3⟩ := h.rows k x hk
    have := h.own.cells (g := g) (by rw [hv]; rfl) k u h1
    rw [Addr.add_lit] at this
    rw [Nat.mul_one]
    exact ⟨u, this, h2⟩

/-- Is an execution allowed? -/
def Alw (T : List (List Ins)) (E : List Evt) (x : Exe) : Prop := JudIs (Cyc E.length (cohA E x)) (tornB E x) (Cyc E.length (kepA T E x)) (¬ Parts E.length (mtL (thoL 2 E 0) (thoL 3 E 0) (thoL 4 E 0)) (kepA T E x)) 0
/-- Which candidates are allowed. -/
def Als (T : List (List Ins)) (E : List Evt) (al : Nat → Bool) : Prop := ∀ n, n < sizeN E → (al n = true ↔ Alw T E (exN E n))
theorem als_ex (T : List (List Ins)) (E : List Evt) : ∃ al, Als T E al := by
  refine ⟨fun n => @decide (Alw T E (exN E n)) (Classical.propDecidable _), fun n _ => ?_⟩
  simp

def optL (al : Nat → Bool) (T : List (List Ins)) (E : List Evt) (N : Nat) : List (Option (List Int)) := (List.range N).map fun n => if al n then some (stX T E (exN E n)) else none
theorem optL_len (al : Nat → Bool) (T : List (List Ins)) (E : List Evt) (N : Nat) : (optL al T E N).length = N := by unfold optL; simp
theorem optL_step (al : Nat → Bool) (T : List (List Ins)) (E : List Evt) (N : Nat) : optL al T E (N + 1) = optL al T E N ++ [if al N then some (stX T E (exN E N)) else none] := by unfold optL; rw [List.range_succ, List.map_append]; rfl

theorem JudIs.zero {P : Prop} {t : Bool} {Q S : Prop} {r : Int} (h : JudIs P t Q S r) : r = 0 ↔ JudIs P t Q S 0 := ⟨fun e => by rw [e] at h; exact h, fun k => h.one k⟩

theorem alw_cyc {T : List (List Ins)} {E : List Evt} {x : Exe} (h : Alw T E x) : ¬ Cyc E.length (kepA T E x) := by
  rcases h with ⟨h, _⟩ | ⟨_, ⟨h, _⟩ | ⟨_, ⟨h, _⟩ | ⟨h, _⟩⟩⟩
  · cases h
  · cases h
  · cases h
  · exact h

theorem JudIs.ex (P : Prop) (t : Bool) (Q S : Prop) : ∃ r, JudIs P t Q S r := by
  by_cases h1 : P
  · exact ⟨1, .inl ⟨rfl, h1⟩⟩
  · cases ht : t
    · by_cases h3 : Q
      · exact ⟨3, .inr ⟨h1, .inr ⟨rfl, .inl ⟨rfl, h3⟩⟩⟩⟩
      · by_cases h4 : S
        · exact ⟨4, .inr ⟨h1, .inr ⟨rfl, .inr ⟨h3, .inl ⟨rfl, h4⟩⟩⟩⟩⟩
        · exact ⟨0, .inr ⟨h1, .inr ⟨rfl, .inr ⟨h3, .inr ⟨h4, rfl⟩⟩⟩⟩⟩
    · exact ⟨2, .inr ⟨h1, .inl ⟨rfl, rfl⟩⟩⟩

theorem IntNew.own {B : Nat} {w : World} {v : Value} {l : List Int} (h : IntNew B w v l) (hl : l ≠ []) : ∀ b, v.ownBlock = some b → B ≤ b ∧ b < w.heap.size := by
  obtain ⟨ao, b, off, cap, ⟨hv, ha, _, hc⟩, hB, _⟩ := h
  intro g hg
  rw [hv, ha hl] at hg
  have : b = g := by simpa [Value.ownBlock] using hg
  subst this
  obtain ⟨x, hx⟩ : ∃ x, l[0]? = some x := by
    cases l with
    | nil => exact absurd rfl hl
    | cons a l => exact ⟨a, rfl⟩
  exact ⟨hB, World.block_lt_of_cell? _ _ (hc 0 x hx)⟩

set_option maxRecDepth 20000 in
set_option maxHeartbeats 4000000 in
theorem all_any (T : List (List Ins)) (fa : Bool) (c : List Atm) (hz : ((chk T c).1 == 0) = true) (al : Nat → Bool) (hal : Als T (evsT T 0) al) (vt vc : Value) (w : World) (h : TestAt w (.agg #[vt, .bool fa, vc]) T fa c vt vc) :
    Calls Tryz.prog 46 #[.agg #[vt, .bool fa, vc]] w fun e w' => ∃ u s, e = .returned (.tuple #[u, s]) ∧ XAt w' u (exs (evsT T 0)) ∧ OptAt w' s (optL al T (evsT T 0) (sizeN (evsT T 0))) ∧ Below w.heap.size w w' := by
  have hF := fits_of hz
  have hM := mts_of hz
  have hN := chk_many_no hz
  have HEV : Hid (∀ w', Below w.heap.size w w' → Calls Tryz.prog 42 #[.agg #[vt, .bool fa, vc]] w' fun e w'' => ∃ u, e = .returned u ∧ Ev9At w'' u (evsT T 0) ∧ Below w'.heap.size w' w'') := fun w' hb => events_any T fa c _ vt vc w' (h.keep hb) hF.short.t4 hF.lens
  have HCD : Hid (∀ u w', Ev9At w' u (evsT T 0) → Calls Tryz.prog 94 #[u] w' fun e w'' => ∃ v, e = .returned v ∧ XAt w'' v (exs (evsT T 0)) ∧ Below w'.heap.size w' w'') := fun u w' hu => candidates_any (evsT T 0) hF.el u w' hu hN
  have hin := evsIn_T T
  obtain ⟨rj, hrj⟩ : ∃ rj : Nat → Int, ∀ n, JudIs (Cyc (evsT T 0).length (cohA (evsT T 0) (exN (evsT T 0) n))) (tornB (evsT T 0) (exN (evsT T 0) n)) (Cyc (evsT T 0).length (kepA T (evsT T 0) (exN (evsT T 0) n))) (¬ Parts (evsT T 0).length (mtL (thoL 2 (evsT T 0) 0) (thoL 3 (evsT T 0) 0) (thoL 4 (evsT T 0) 0)) (kepA T (evsT T 0) (exN (evsT T 0) n))) (rj n) :=
    ⟨fun n => Classical.choose (JudIs.ex _ _ _ _), fun n => Classical.choose_spec (JudIs.ex _ _ _ _)⟩
  have HRZ : Hid (∀ n, n < sizeN (evsT T 0) → (rj n == 0) = al n) := fun n hn => by
    rw [Bool.eq_iff_iff, hal n hn, beq_iff_eq]
    exact (hrj n).zero
  have HJD : Hid (∀ n u vf vo w', Below w.heap.size w w' → Ev9At w' u (evsT T 0) → ExeC w' vf vo (exN (evsT T 0) n) → Calls Tryz.prog 56 #[.agg #[vt, .bool fa, vc], u, .agg #[vf, vo]] w' fun e w'' => e = .returned (.int .i64 (rj n)) ∧ Below w'.heap.size w' w'') := fun n u vf vo w' hb hu hx => by
    refine (judge_any T hF.short fa c vt vc (evsT T 0) hF.el hin hF.locs hM (exN (evsT T 0) n) ((exN_isEx _ n).xok hF.el hF.locs) u vf vo w' (h.keep hb) hu hx).mono ?_
    rintro e w'' ⟨r, he, hj, hb'⟩
    exact ⟨by rw [he, hj.one (hrj n)], hb'⟩
  have HST : Hid (∀ n u vf vo w', Below w.heap.size w w' → Ev9At w' u (evsT T 0) → ExeAt w' vf vo (exN (evsT T 0) n) → Calls Tryz.prog 41 #[.agg #[vt, .bool fa, vc], u, .agg #[vf, vo]] w' fun e w'' => ∃ v, e = .returned v ∧ IntNew w'.heap.size w'' v (stX T (evsT T 0) (exN (evsT T 0) n)) ∧ Below w'.heap.size w' w'') := fun n u vf vo w' hb hu hx => by
    have hxx := exN_isEx (evsT T 0) n
    refine state_any T hF.short.t4 fa c vt vc (evsT T 0) hF.el (exN (evsT T 0) n) hxx.f hxx.evI.1 hxx.o3 (fun l hl => ⟨?_, hxx.evI.2 l hl⟩) u vf vo w' (h.keep hb) hu hx
    obtain ⟨j, hj⟩ := List.mem_iff_getElem?.1 hl
    exact hxx.len hF.el hj
  have HXS : Hid ((exs (evsT T 0)).length = sizeN (evsT T 0) ∧ ∀ n, n < sizeN (evsT T 0) → (exs (evsT T 0))[n]? = some (exN (evsT T 0) n)) := ⟨exs_len _, fun n hn => exs_at _ n hn⟩
  have HOL : Hid (∀ k, (optL al T (evsT T 0) k).length = k ∧ optL al T (evsT T 0) (k + 1) = optL al T (evsT T 0) k ++ [if al k then some (stX T (evsT T 0) (exN (evsT T 0) k)) else none]) := fun k => ⟨optL_len _ _ _ _, optL_step _ _ _ _⟩
  have HO0 : Hid (optL al T (evsT T 0) 0 = []) := rfl
  have HNE : Hid (∀ n, stX T (evsT T 0) (exN (evsT T 0) n) ≠ []) := fun n => stX_ne _ _ _
  clear hrj hal hz hM hin
  generalize evsT T 0 = E at *
  generalize optL al T E = OS at *
  generalize exs E = XS at *
  generalize sizeN E = N at *
  obtain ⟨i1, hi, hz0, hz1, hz2⟩ := info_parts Tryz.infoInts
  have HI : Hid (Tryz.prog.info? 26 = some i1 ∧ i1.zero = some (.slice none 0 0) ∧ i1.size = 1 ∧ i1.bytes = 24) := ⟨hi, hz0, hz1, hz2⟩
  clear hi hz0 hz1 hz2 h hF
  go_enter Tryz.func46, Tryz.ntmps46
  go_wp2_with fail
  have hba := below_alloc w (.cells #[vt, .bool fa, vc] 25)
  refine (HEV.out _ hba).mono ?_
  rintro e w2 ⟨ue, rfl, hue, hb2⟩
  have hbw2 := below_more hba hb2
  have HUE : Hid (Ev9At w2 ue E) := hue
  have t0 := keep_cell hb2 (b := w.heap.size) (off := 0) (u := vt) (by simp)
  have t1 := keep_cell hb2 (b := w.heap.size) (off := 1) (u := .bool fa) (by simp)
  have t2 := keep_cell hb2 (b := w.heap.size) (off := 2) (u := vc) (by simp)
  clear hue hb2
  go_wp2_with fail
  refine (HCD.out ue w2 HUE.out).mono ?_
  rintro e w3 ⟨uc, rfl, huc, hb3⟩
  obtain ⟨aoC, bC, offC, capC, hsC⟩ := huc
  have hvC := hsC.hv
  rw [HXS.out.1] at hvC
  subst hvC
  have HSC : Hid (SlAt w3 2 XC (.slice aoC N capC) XS aoC bC offC capC) := hsC
  have HUE3 : Hid (Ev9At w3 ue E) := HUE.out.keep hb3
  have hbw3 := below_more hbw2 hb3
  have HK : Hid (∀ w', Below w3.heap.size w3 w' → w'.cell? ⟨w.heap.size, 0, none⟩ = some vt ∧ w'.cell? ⟨w.heap.size, 1, none⟩ = some (.bool fa) ∧ w'.cell? ⟨w.heap.size, 2, none⟩ = some vc) := fun w' hb => ⟨keep_cell hb (keep_cell hb3 t0), keep_cell hb (keep_cell hb3 t1), keep_cell hb (keep_cell hb3 t2)⟩
  clear hsC t0 t1 t2 hbw2 HUE hba
  go_wp2_with fail
  go_loopw [6, 7] (fun u i wr => ∃ (k : Nat) (vs : List Value), k ≤ N ∧ i = .int .i64 k ∧ Hid (OL wr w3.heap.size u (OS k) vs) ∧ Below w3.heap.size w3 wr) (fun _ i _ => N - (intOf i).toNat)
  case atStart => exact ⟨0, [], Nat.zero_le _, rfl, by show OL _ _ _ _ _; rw [HO0.out]; exact OL.nil _ _, Below.refl _ _⟩
  case round =>
    clear HO0
    obtain ⟨k, vs, hk, rfl, hOL, hb⟩ := hrel
    have hbw := below_more hbw3 hb
    by_cases hlt : k < N
    · obtain ⟨vf, vo, c0, c1, hxc⟩ := HSC.out.hc k _ (HXS.out.2 k hlt)
      have haC := HSC.out.ha (by intro h0; have := HXS.out.1; rw [h0] at this; simp at this; omega)
      subst haC
      have HXC : Hid (ExeC w3 vf vo (exN E k)) := hxc
      obtain ⟨t0, t1, t2⟩ := HK.out wr hb
      have HJ1 : Hid (∀ w', Below wr.heap.size wr w' → Calls Tryz.prog 56 #[.agg #[vt, .bool fa, vc], ue, .agg #[vf, vo]] w' fun e w'' => e = .returned (.int .i64 (rj k)) ∧ Below w'.heap.size w' w'') := fun w' hb' => HJD.out k ue vf vo w' (below_more hbw hb') (HUE3.out.keep (below_more hb hb')) (HXC.out.keep (below_more hb hb'))
      have HS1 : Hid (∀ w', Below wr.heap.size wr w' → Calls Tryz.prog 41 #[.agg #[vt, .bool fa, vc], ue, .agg #[vf, vo]] w' fun e w'' => ∃ v, e = .returned v ∧ IntNew w'.heap.size w'' v (stX T E (exN E k)) ∧ Below w'.heap.size w' w'') := fun w' hb' => HST.out k ue vf vo w' (below_more hbw hb') (HUE3.out.keep (below_more hb hb')) (HXC.out.at'.keep (below_more hb hb'))
      have hrz := HRZ.out k hlt
      obtain ⟨hol0, hol1⟩ := HOL.out k
      have HO1 : Hid (OS (k + 1) = OS k ++ [if al k then some (stX T E (exN E k)) else none]) := hol1
      have hne := HNE.out k
      have HNK : Hid (stX T E (exN E k) ≠ []) := hne
      generalize stX T E (exN E k) = st at HS1 HO1 HNK
      generalize rj k = r at HJ1 hrz
      have hkI : (k : Int) < (N : Int) := by omega
      have d0 := keep_cell hb c0
      have d1 := keep_cell hb c1
      have HOK := hOL
      clear c0 c1 hxc hol1 hne hOL
      go_wp2_with fail
      have g0 := grown_cell t0
      have g1 := grown_cell t1
      have g2 := grown_cell t2
      have g3 := grown_cell d0
      have g4 := grown_cell d1
      have hnw := grw_some wr
      refine wp_region_grown (by kernel_rfl) (by kernel_rfl) ?_
      repeat (go_big_quiet_step ((go_at_call 56; exact grown_call (HJ1.out _ (Grw.low _)))))
      refine wpQuiet_nil ?_
      intro w7 hw7
      obtain ⟨⟨w7', hb7⟩, rfl⟩ := hw7
      replace t0 := keep_cell hb7 t0
      replace t1 := keep_cell hb7 t1
      replace t2 := keep_cell hb7 t2
      replace d0 := keep_cell hb7 d0
      replace d1 := keep_cell hb7 d1
      have hb37 := below_more hb hb7
      have hs7 := hb37.size
      have HO7 : Hid (OL w7 w3.heap.size u6 (OS k) vs) := HOK.out.keep hb7
      have HL7 : Hid (w7.ownsRow w3.heap.size 26 1 u6 k vs) := by have := HO7.out.own; rw [hol0] at this; exact this
      clear g0 g1 g2 g3 g4 HJ1 HOK hnw
      cases hr : r == 0
      · have hr2 : (r != 0) = true := by simp [bne, hr]
        have hak : al k = false := by rw [← hrz]; exact hr
        clear t0 t1 t2 d0 d1 HS1
        go_wp2_with (at_builtin; refine append_new _ rfl _ _ 27 rfl w3.heap.size 26 i1 (.slice none 0 0) 1 24 Tryz.underlying27 HI.out.1 HI.out.2.1 HI.out.2.2.1 HI.out.2.2.2 rfl (by decide) u6 k vs rfl (HL7.out.alloc _) (some ⟨w7.heap.size, 0, none⟩) 1 1 [.slice none 0 0] rfl (fun h => by cases h) rfl (fun ad had => by cases had; exact new_one rfl) (by simp [Value.oneCell']) (by unfold maxLen; omega) (by omega) (by simp; omega) ?_)
        intro V8 w8 hown8 hgrow8 hap8
        have HO8 : Hid (OL w8 w3.heap.size V8 (OS (k + 1)) (vs ++ [.slice none 0 0])) := by
          show OL _ _ _ _ _
          rw [HO1.out, hak]
          exact HO7.out.snoc (x := none) rfl (fun b hb => by simp [Value.ownBlock] at hb) (by rw [hol0]; exact hown8) hgrow8 (by simpa using hap8)
        have HB8 : Hid (Below w3.heap.size w3 w8) := Below.grown (hb37.alloc hs7 _) hgrow8 (by simp; omega) (fun kk e => (HL7.out.lt kk e).1)
        clear hown8 hgrow8 hap8
        go_wp2_with fail
        go_roundw
        case measure => simp [intOf]; omega
        case rel => exact ⟨k + 1, _, by omega, by go_num, HO8.out, HB8.out⟩
      · have hr2 : (r != 0) = false := by simp [bne, hr]
        have hak : al k = true := by rw [← hrz]; exact hr
        go_upto_region 10 with fail
        go_region_with (go_at_call 41; refine (HS1.out _ hb7.drew).mono ?_; rintro e w8 ⟨v8, rfl, hv8, hb8⟩)
        all_goals
          have hb78 : Below w7.heap.size w7 w8 := (Below.refl _ w7).drew.trans hb8
          have HO8 : Hid (OL w8 w3.heap.size u6 (OS k) vs) := HO7.out.keep hb78
          have HL8 : Hid (w8.ownsRow w3.heap.size 26 1 u6 k vs) := own_keep HL7.out hb78
          have hV7 := HL7.out.lt
          have HV8 : Hid (OptV w8 v8 (some st) ∧ ∀ b, v8.ownBlock = some b → w3.heap.size ≤ b ∧ b < w8.heap.size ∧ u6.ownBlock ≠ some b) := ⟨⟨hv8.at', HNK.out⟩, fun b hbb => by
            obtain ⟨q1, q2⟩ := hv8.own HNK.out b hbb
            simp only [World.size_drew] at q1
            exact ⟨by omega, q2, fun e => by have := (hV7 b e).2; omega⟩⟩
          have hb38 := below_more hb37 hb78
          have hs8 := hb38.size
          obtain ⟨a8, cap8, hf8⟩ := OptV.form HV8.out.1
          clear t0 t1 t2 d0 d1 HS1 hv8 hb8 hV7
          subst hf8
          go_wp2_with (at_builtin; refine append_new _ rfl _ _ 27 rfl w3.heap.size 26 i1 (.slice none 0 0) 1 24 Tryz.underlying27 HI.out.1 HI.out.2.1 HI.out.2.2.1 HI.out.2.2.2 rfl (by decide) u6 k vs rfl (HL8.out.alloc _) (some ⟨w8.heap.size, 0, none⟩) 1 1 [.slice (some a8) st.length cap8] rfl (fun h => by cases h) rfl (fun ad had => by cases had; exact new_one rfl) (by simp [Value.oneCell']) (by unfold maxLen; omega) (by omega) (by simp; omega) ?_)
          intro V9 w9 hown9 hgrow9 hap9
          have HO9 : Hid (OL w9 w3.heap.size V9 (OS (k + 1)) (vs ++ [.slice (some a8) st.length cap8])) := by
            show OL _ _ _ _ _
            rw [HO1.out, hak]
            exact HO8.out.snoc (x := some st) HV8.out.1 HV8.out.2 (by rw [hol0]; exact hown9) hgrow9 (by simpa using hap9)
          have HB9 : Hid (Below w3.heap.size w3 w9) := Below.grown (hb38.alloc hs8 _) hgrow9 (by simp; omega) (fun kk e => (HL8.out.lt kk e).1)
          clear hown9 hgrow9 hap9
          go_wp2_with fail
          go_roundw
          case measure => simp [intOf]; omega
          case rel => exact ⟨k + 1, _, by omega, by go_num, HO9.out, HB9.out⟩
    · have hkN : k = N := by omega
      have HOK : Hid (OptAt wr u6 (OS N)) := by have := hOL.out.read; rw [hkN] at this; exact this
      have hkI : (N : Int) ≤ (k : Int) := by omega
      clear hkN hOL
      go_wp2_with fail
      go_ret2
      exact ⟨_, _, rfl, ⟨_, bC, offC, capC, HSC.out.keep xc_keeps hb⟩, HOK.out, hbw⟩

end Go.Proofs.YtomijmikkbhgmaaGreat

namespace Go.Proofs.YtomijmikkbhgmaaGreat

/-- A state goes ahead of another one. -/
def ltL : List Int → List Int → Bool
  | a :: l, b :: m => if a == b then ltL l m else decide (a < b)
  | _, _ => false
theorem ltL_eq {a b : Int} (h : (a == b) = true) (l m : List Int) : ltL (a :: l) (b :: m) = ltL l m := by rw [ltL, if_pos h]
theorem ltL_ne {a b : Int} (h : (a == b) = false) (l m : List Int) : ltL (a :: l) (b :: m) = decide (a < b) := by rw [ltL, if_neg (by simp [h])]

theorem ltL_irr (l : List Int) : ltL l l = false := by
  induction l with
  | nil => rfl
  | cons a l ih => rw [ltL_eq (by simp)]; exact ih

theorem ltL_trans {l m n : List Int} (h1 : ltL l m = true) (h2 : ltL m n = true) : ltL l n = true := by
  induction l generalizing m n with
  | nil => simp [ltL] at h1
  | cons a l ih =>
    cases m with
    | nil => simp [ltL] at h1
    | cons b m =>
      cases n with
      | nil => simp [ltL] at h2
      | cons c n =>
        cases hab : a == b
        · rw [ltL_ne hab] at h1
          have h1' : a < b := by simpa using h1
          cases hbc : b == c
          · rw [ltL_ne hbc] at h2
            have h2' : b < c := by simpa using h2
            rw [ltL_ne (by simp; omega)]
            simp; omega
          · have : b = c := by simpa using hbc
            subst this
            rw [ltL_ne hab]; exact h1
        · have : a = b := by simpa using hab
          subst this
          rw [ltL_eq (by simp)] at h1
          cases hbc : a == c
          · rw [ltL_ne hbc] at h2 ⊢; exact h2
          · rw [ltL_eq hbc] at h2 ⊢
            exact ih h1 h2

theorem ltL_asym {l m : List Int} (h : ltL l m = true) : ltL m l = false := by
  cases h2 : ltL m l
  · rfl
  · have := ltL_trans h h2; rw [ltL_irr] at this; cases this

theorem ltL_total {l m : List Int} (hl : l.length = m.length) (h1 : ltL l m = false) (h2 : ltL m l = false) : l = m := by
  induction l generalizing m with
  | nil => cases m with
    | nil => rfl
    | cons b m => simp at hl
  | cons a l ih =>
    cases m with
    | nil => simp at hl
    | cons b m =>
      cases hab : a == b
      · rw [ltL_ne hab] at h1
        have hba : (b == a) = false := by simp at hab ⊢; omega
        rw [ltL_ne hba] at h2
        simp at h1 h2 hab; omega
      · have : a = b := by simpa using hab
        subst this
        rw [ltL_eq (by simp)] at h1 h2
        rw [ih (by simpa using hl) h1 h2]

theorem cmpL_lt {l m : List Int} (hl : l.length = m.length) : decide (cmpL l m < 0) = ltL l m := by
  induction l generalizing m with
  | nil => cases m <;> rfl
  | cons a l ih =>
    cases m with
    | nil => rfl
    | cons b m =>
      cases hab : a == b
      · rw [cmpL_ne hab, ltL_ne hab]
        rw [Bool.eq_iff_iff]; first | (simp; done) | (simp; omega)
      · rw [cmpL_eq hab, ltL_eq hab]
        exact ih (by simpa using hl)
theorem cmpL_gt {l m : List Int} (hl : l.length = m.length) : decide (0 < cmpL l m) = ltL m l := by
  induction l generalizing m with
  | nil => cases m <;> rfl
  | cons a l ih =>
    cases m with
    | nil => rfl
    | cons b m =>
      cases hab : a == b
      · have hba : (b == a) = false := by simp at hab ⊢; omega
        rw [cmpL_ne hab, ltL_ne hba]
        rw [Bool.eq_iff_iff]; first | (simp; done) | (simp; omega)
      · have e : a = b := by simpa using hab
        have hba : (b == a) = true := by simp [e]
        rw [cmpL_eq hab, ltL_eq hba]
        exact ih (by simpa using hl)
theorem cmpL_zero {l m : List Int} (hl : l.length = m.length) : cmpL l m = 0 ↔ l = m := by
  have h1 := cmpL_lt hl
  have h2 := cmpL_gt hl
  constructor
  · intro h
    rw [h] at h1 h2
    exact ltL_total hl (by rw [← h1]; rfl) (by rw [← h2]; rfl)
  · intro h
    subst h
    rw [ltL_irr] at h1 h2
    simp at h1 h2; omega

/-- One state more among sorted ones. -/
def insO : List (List Int × Nat) → List Int → List (List Int × Nat)
  | [], s => [(s, 1)]
  | p :: K, s => if ltL p.1 s then p :: insO K s else if ltL s p.1 then (s, 1) :: p :: K else (p.1, p.2 + 1) :: K

def tailO (s : List Int) : List (List Int × Nat) → List (List Int × Nat)
  | [] => [(s, 1)]
  | p :: B => if ltL s p.1 then (s, 1) :: p :: B else (p.1, p.2 + 1) :: B
theorem insO_split (A B : List (List Int × Nat)) (s : List Int) (hA : ∀ p ∈ A, ltL p.1 s = true) (hB : ∀ p, B.head? = some p → ltL p.1 s = false) :
    insO (A ++ B) s = A ++ tailO s B := by
  induction A with
  | nil =>
    cases B with
    | nil => rfl
    | cons p B =>
      show insO (p :: B) s = _
      rw [insO, hB p rfl]; rfl
  | cons a A ih =>
    rw [List.cons_append, insO, hA a (List.mem_cons_self ..), if_pos rfl, ih (fun p hp => hA p (List.mem_cons_of_mem _ hp))]; rfl

def SrtK : List (List Int × Nat) → Prop
  | [] => True
  | p :: K => (∀ q ∈ K, ltL p.1 q.1 = true) ∧ SrtK K

def LenK (n : Nat) (K : List (List Int × Nat)) : Prop := ∀ p ∈ K, p.1.length = n

theorem insO_mem {K : List (List Int × Nat)} {s : List Int} {q : List Int × Nat} (h : q ∈ insO K s) : (∃ p ∈ K, p.1 = q.1) ∨ q.1 = s := by
  induction K with
  | nil => simp [insO] at h; exact .inr (by rw [h])
  | cons p K ih =>
    rw [insO] at h
    split at h
    · rcases List.mem_cons.1 h with rfl | h
      · exact .inl ⟨q, List.mem_cons_self .., rfl⟩
      · rcases ih h with ⟨p', h1, h2⟩ | h1
        · exact .inl ⟨p', List.mem_cons_of_mem _ h1, h2⟩
        · exact .inr h1
    · split at h
      · rcases List.mem_cons.1 h with rfl | h
        · exact .inr rfl
        · exact .inl ⟨q, h, rfl⟩
      · rcases List.mem_cons.1 h with rfl | h
        · exact .inl ⟨p, List.mem_cons_self .., rfl⟩
        · exact .inl ⟨q, List.mem_cons_of_mem _ h, rfl⟩

theorem insO_len {n : Nat} {K : List (List Int × Nat)} {s : List Int} (h : LenK n K) (hs : s.length = n) : LenK n (insO K s) := by
  intro q hq
  rcases insO_mem hq with ⟨p, h1, h2⟩ | h1
  · rw [← h2]; exact h p h1
  · rw [h1]; exact hs

theorem insO_srt {n : Nat} {K : List (List Int × Nat)} {s : List Int} (h : SrtK K) (hl : LenK n K) (_hs : s.length = n) : SrtK (insO K s) := by
  induction K with
  | nil => exact ⟨fun q hq => (nomatch hq), trivial⟩
  | cons p K ih =>
    rw [insO]
    cases h1 : ltL p.1 s
    · rw [if_neg (by simp)]
      cases h2 : ltL s p.1
      · rw [if_neg (by simp)]
        exact ⟨h.1, h.2⟩
      · rw [if_pos rfl]
        refine ⟨fun q hq => ?_, h⟩
        rcases List.mem_cons.1 hq with rfl | hq
        · exact h2
        · exact ltL_trans h2 (h.1 q hq)
    · rw [if_pos rfl]
      refine ⟨fun q hq => ?_, ih h.2 (fun q hq => hl q (List.mem_cons_of_mem _ hq))⟩
      rcases insO_mem hq with ⟨p', k1, k2⟩ | k1
      · rw [← k2]; exact h.1 p' k1
      · rw [k1]; exact h1

/-- How often a state is counted. -/
def cnOu : List (List Int × Nat) → List Int → Nat
  | [], _ => 0
  | p :: K, t => (if p.1 == t then p.2 else 0) + cnOu K t
def cnSt : List (List Int) → List Int → Nat
  | [], _ => 0
  | s :: L, t => (if s == t then 1 else 0) + cnSt L t

theorem insO_cnt {n : Nat} {K : List (List Int × Nat)} {s : List Int} (hl : LenK n K) (hs : s.length = n) (t : List Int) : cnOu (insO K s) t = cnOu K t + (if s == t then 1 else 0) := by
  induction K with
  | nil => simp [insO, cnOu]
  | cons p K ih =>
    have hpl := hl p (List.mem_cons_self ..)
    rw [insO]
    cases h1 : ltL p.1 s
    · rw [if_neg (by simp)]
      cases h2 : ltL s p.1
      · rw [if_neg (by simp)]
        have : p.1 = s := ltL_total (by omega) h1 h2
        rw [cnOu, cnOu, this]
        cases s == t <;> simp <;> omega
      · rw [if_pos rfl, cnOu]; simp only; omega
    · rw [if_pos rfl, cnOu, cnOu, ih (fun q hq => hl q (List.mem_cons_of_mem _ hq))]; omega

def outK (L : List (List Int)) : List (List Int × Nat) := L.foldl insO []

theorem foldO_spec {n : Nat} (L : List (List Int)) (hL : ∀ s ∈ L, s.length = n) (K : List (List Int × Nat)) (h1 : SrtK K) (h2 : LenK n K) (h3 : ∀ p ∈ K, 1 ≤ p.2) :
    SrtK (L.foldl insO K) ∧ LenK n (L.foldl insO K) ∧ (∀ p ∈ L.foldl insO K, 1 ≤ p.2) ∧ ∀ t, cnOu (L.foldl insO K) t = cnOu K t + cnSt L t := by
  induction L generalizing K with
  | nil => exact ⟨h1, h2, h3, fun t => by simp [cnSt]⟩
  | cons s L ih =>
    have hs := hL s (List.mem_cons_self ..)
    have h3' : ∀ p ∈ insO K s, 1 ≤ p.2 := by
      clear ih h1 h2
      induction K with
      | nil => intro p hp; simp [insO] at hp; rw [hp]; exact Nat.le_refl _
      | cons q K ih =>
        intro p hp
        rw [insO] at hp
        split at hp
        · rcases List.mem_cons.1 hp with rfl | hp
          · exact h3 _ (List.mem_cons_self ..)
          · exact ih (fun p hp => h3 p (List.mem_cons_of_mem _ hp)) p hp
        · split at hp
          · rcases List.mem_cons.1 hp with rfl | hp
            · exact Nat.le_refl _
            · exact h3 p hp
          · rcases List.mem_cons.1 hp with rfl | hp
            · show 1 ≤ q.2 + 1; omega
            · exact h3 p (List.mem_cons_of_mem _ hp)
    obtain ⟨a, b, c, d⟩ := ih (fun t ht => hL t (List.mem_cons_of_mem _ ht)) (insO K s) (insO_srt h1 h2 hs) (insO_len h2 hs) h3'
    refine ⟨a, b, c, fun t => ?_⟩
    show cnOu (L.foldl insO (insO K s)) t = _
    rw [d t, insO_cnt h2 hs, cnSt]; omega

theorem outK_spec {n : Nat} {L : List (List Int)} (hL : ∀ s ∈ L, s.length = n) : SrtK (outK L) ∧ LenK n (outK L) ∧ (∀ p ∈ outK L, 1 ≤ p.2) ∧ ∀ t, cnOu (outK L) t = cnSt L t := by
  obtain ⟨a, b, c, d⟩ := foldO_spec L hL [] trivial (fun p hp => by cases hp) (fun p hp => by cases hp)
  exact ⟨a, b, c, fun t => by unfold outK; rw [d t]; simp [cnOu]⟩

theorem insO_length (K : List (List Int × Nat)) (s : List Int) : (insO K s).length ≤ K.length + 1 := by
  induction K with
  | nil => exact Nat.le_refl _
  | cons p K ih =>
    rw [insO]
    split
    · simp only [List.length_cons]; omega
    · split
      · simp only [List.length_cons]; omega
      · simp only [List.length_cons]; omega
theorem outK_len (L : List (List Int)) : (outK L).length ≤ L.length := by
  have : ∀ (L : List (List Int)) (K : List (List Int × Nat)), (L.foldl insO K).length ≤ K.length + L.length := by
    intro L
    induction L with
    | nil => intro K; exact Nat.le_refl _
    | cons s L ih =>
      intro K
      have h1 := ih (insO K s)
      have h2 := insO_length K s
      rw [List.foldl_cons, List.length_cons]; omega
  have := this L []
  simpa [outK] using this

theorem cnOu_pos {K : List (List Int × Nat)} {t : List Int} (h : 1 ≤ cnOu K t) : ∃ p ∈ K, p.1 = t := by
  induction K with
  | nil => simp [cnOu] at h
  | cons p K ih =>
    rw [cnOu] at h
    cases hp : p.1 == t
    · rw [hp] at h
      obtain ⟨q, h1, h2⟩ := ih (by simpa using h)
      exact ⟨q, List.mem_cons_of_mem _ h1, h2⟩
    · exact ⟨p, List.mem_cons_self .., by simpa using hp⟩
theorem cnOu_zero {K : List (List Int × Nat)} {t : List Int} (h : ∀ q ∈ K, q.1 ≠ t) : cnOu K t = 0 := by
  induction K with
  | nil => rfl
  | cons p K ih =>
    have hp : (p.1 == t) = false := by simpa using h p (List.mem_cons_self ..)
    rw [cnOu, ih (fun q hq => h q (List.mem_cons_of_mem _ hq)), hp]; rfl
theorem cnOu_at {K : List (List Int × Nat)} (h : SrtK K) {p : List Int × Nat} (hp : p ∈ K) : cnOu K p.1 = p.2 := by
  induction K with
  | nil => cases hp
  | cons q K ih =>
    rw [cnOu]
    rcases List.mem_cons.1 hp with rfl | hp
    · rw [cnOu_zero (fun q hq e => by have := h.1 q hq; rw [e, ltL_irr] at this; cases this)]; simp
    · have hne : (q.1 == p.1) = false := by
        cases e : q.1 == p.1
        · rfl
        · have e' : q.1 = p.1 := by simpa using e
          have := h.1 p hp
          rw [e', ltL_irr] at this; cases this
      rw [hne, ih h.2 hp]; simp
theorem cnSt_pos {L : List (List Int)} {t : List Int} : 1 ≤ cnSt L t ↔ t ∈ L := by
  induction L with
  | nil => simp [cnSt]
  | cons s L ih =>
    rw [cnSt, List.mem_cons]
    cases hs : s == t
    · have : ¬ t = s := fun e => by rw [e] at hs; simp at hs
      simp [ih, this]
    · have : t = s := by simp at hs; exact hs.symm
      simp [this]

theorem srt_get {K : List (List Int × Nat)} (h : SrtK K) {i j : Nat} {p q : List Int × Nat} (hij : i < j) (hi : K[i]? = some p) (hj : K[j]? = some q) : ltL p.1 q.1 = true := by
  induction K generalizing i j with
  | nil => simp at hi
  | cons a K ih =>
    cases j with
    | zero => omega
    | succ j =>
      cases i with
      | zero =>
        simp at hi hj
        rw [← hi]; exact h.1 q (List.mem_of_getElem? hj)
      | succ i =>
        rw [List.getElem?_cons_succ] at hi hj
        exact ih h.2 (by omega) hi hj

/-! the least one that is greater -/
def notGt (than : Option (List Int)) (l : List Int) : Bool := match than with
  | none => false
  | some t => decide (cmpL l t ≤ 0)
theorem lstep_some (than best : Option (List Int)) (l : List Int) : lstep than best (some l) = if notGt than l then best else match best with
    | none => some l
    | some b => if decide (0 ≤ cmpL l b) then best else some l := by
  cases than <;> cases best <;> rfl
theorem notGt_iff {n : Nat} {than : Option (List Int)} {l : List Int} (hth : ∀ t, than = some t → t.length = n) (hll : l.length = n) : notGt than l = true ↔ ∃ t, than = some t ∧ ltL t l = false := by
  cases than with
  | none => simp [notGt]
  | some t =>
    have := cmpL_gt (l := l) (m := t) (by rw [hll, hth t rfl])
    simp only [notGt, decide_eq_true_eq, Option.some.injEq, exists_eq_left']
    rw [← this]; simp

theorem leastO_spec {n : Nat} (than : Option (List Int)) (hth : ∀ t, than = some t → t.length = n) (L : List (Option (List Int))) (hL : ∀ l, some l ∈ L → l.length = n) (best : Option (List Int)) (hb : ∀ l, best = some l → l.length = n) :
    (∀ m, leastO than best L = some m → m.length = n ∧ ((best = some m) ∨ (some m ∈ L ∧ ∀ t, than = some t → ltL t m = true)) ∧ (∀ b, best = some b → ltL b m = false) ∧ ∀ l, some l ∈ L → (∀ t, than = some t → ltL t l = true) → ltL l m = false) ∧
    (leastO than best L = none → best = none ∧ ∀ l, some l ∈ L → ∃ t, than = some t ∧ ltL t l = false) := by
  induction L generalizing best with
  | nil =>
    refine ⟨fun m hm => ?_, fun h => ⟨h, fun l hl => by cases hl⟩⟩
    have hm' : best = some m := hm
    exact ⟨hb m hm', .inl hm', fun b hb' => by rw [hm'] at hb'; cases hb'; exact ltL_irr _, fun l hl => by cases hl⟩
  | cons o L ih =>
    have hL' : ∀ l, some l ∈ L → l.length = n := fun l hl => hL l (List.mem_cons_of_mem _ hl)
    -- what the step makes of o
    have hstep : (lstep than best o = best ∧ ((o = none) ∨ ∃ l, o = some l ∧ ((∃ t, than = some t ∧ ltL t l = false) ∨ ((∀ t, than = some t → ltL t l = true) ∧ ∃ b, best = some b ∧ ltL l b = false)))) ∨
        (∃ l, o = some l ∧ lstep than best o = some l ∧ (∀ t, than = some t → ltL t l = true) ∧ ∀ b, best = some b → ltL l b = true) := by
      cases o with
      | none => exact .inl ⟨rfl, .inl rfl⟩
      | some l =>
        have hll := hL l (List.mem_cons_self ..)
        have htest := notGt_iff hth hll
        have hls := lstep_some than best l
        cases ht : notGt than l
        · have hno : ∀ t, than = some t → ltL t l = true := fun t e => by
            cases h2 : ltL t l
            · have := htest.2 ⟨t, e, h2⟩; rw [ht] at this; cases this
            · rfl
          rw [ht, if_neg (by simp)] at hls
          cases hbe : best with
          | none =>
            rw [hbe] at hls
            exact .inr ⟨l, rfl, hls, hno, fun b e => by cases e⟩
          | some b =>
            rw [hbe] at hls
            have hc := cmpL_lt (l := l) (m := b) (by rw [hll, hb b hbe])
            simp only at hls
            cases hlt : ltL l b
            · rw [hlt] at hc
              have : (0 : Int) ≤ cmpL l b := by simpa using hc
              exact .inl ⟨by rw [hls, if_pos (by simpa using this)], .inr ⟨l, rfl, .inr ⟨hno, b, rfl, hlt⟩⟩⟩
            · rw [hlt] at hc
              have : cmpL l b < 0 := by simpa using hc
              refine .inr ⟨l, rfl, by rw [hls, if_neg (by simp; omega)], hno, fun b' e => by cases e; exact hlt⟩
        · refine .inl ⟨?_, .inr ⟨l, rfl, .inl (htest.1 ht)⟩⟩
          rw [hls, ht, if_pos rfl]
    have hb2 : ∀ l, lstep than best o = some l → l.length = n := by
      intro l hl
      rcases hstep with ⟨h1, _⟩ | ⟨l', h1, h2, _⟩
      · exact hb l (h1 ▸ hl)
      · rw [h2] at hl
        have e : l' = l := by simpa using hl
        exact hL l (by rw [h1, e]; exact List.mem_cons_self ..)
    obtain ⟨i1, i2⟩ := ih hL' (lstep than best o) hb2
    refine ⟨fun m hm => ?_, fun hnone => ?_⟩
    · obtain ⟨j0, j1, j2, j3⟩ := i1 m hm
      rcases hstep with ⟨e1, e2⟩ | ⟨l', e1, e2, e3, e4⟩
      · rw [e1] at j1 j2
        refine ⟨j0, ?_, j2, fun l hl hgt => ?_⟩
        · rcases j1 with j | ⟨j, j'⟩
          · exact .inl j
          · exact .inr ⟨List.mem_cons_of_mem _ j, j'⟩
        · rcases List.mem_cons.1 hl with e | hl
          · rcases e2 with e2 | ⟨l2, e2, e3⟩
            · rw [e2] at e; cases e
            · rw [e2] at e; cases e
              rcases e3 with ⟨t, t1, t2⟩ | ⟨_, b, b1, b2⟩
              · have := hgt t t1; rw [t2] at this; cases this
              · have h3 := j2 b b1
                cases hlm : ltL l m
                · rfl
                · have hbl : b.length = n := hb b b1
                  have hll : l.length = n := hL l hl
                  cases h4 : ltL b l
                  · have : l = b := ltL_total (by omega) b2 h4
                    rw [this] at hlm; rw [h3] at hlm; cases hlm
                  · have := ltL_trans h4 hlm; rw [h3] at this; cases this
          · exact j3 l hl hgt
      · rw [e2] at j1 j2
        refine ⟨j0, ?_, fun b hb' => ?_, fun l hl hgt => ?_⟩
        · rcases j1 with j | ⟨j, j'⟩
          · cases j; exact .inr ⟨by rw [e1]; exact List.mem_cons_self .., e3⟩
          · exact .inr ⟨List.mem_cons_of_mem _ j, j'⟩
        · cases hbm : ltL b m
          · rfl
          · have := ltL_trans (e4 b hb') hbm; rw [j2 l' rfl] at this; cases this
        · rcases List.mem_cons.1 hl with e | hl
          · rw [e1] at e
            have e' : l = l' := by simpa using e
            exact j2 l (by rw [e'])
          · exact j3 l hl hgt
    · obtain ⟨k1, k2⟩ := i2 hnone
      rcases hstep with ⟨e1, e2⟩ | ⟨l', e1, e2, e3, e4⟩
      · rw [e1] at k1
        refine ⟨k1, fun l hl => ?_⟩
        rcases List.mem_cons.1 hl with e | hl
        · rcases e2 with e2 | ⟨l2, e2, e3⟩
          · rw [e2] at e; cases e
          · rw [e2] at e; cases e
            rcases e3 with e3 | ⟨_, b, b1, _⟩
            · exact e3
            · rw [k1] at b1; cases b1
        · exact k2 l hl
      · rw [e2] at k1; cases k1

/-- The next state is the next outcome. -/
theorem least_next {n : Nat} {L : List (Option (List Int))} (hL : ∀ l, some l ∈ L → l.length = n) (than : Option (List Int)) (j : Nat) (hth : (than = none ∧ j = 0) ∨ ∃ p i, j = i + 1 ∧ than = some p.1 ∧ (outK (L.filterMap id))[i]? = some p) :
    leastO than none L = ((outK (L.filterMap id))[j]?).map (·.1) := by
  have hmem : ∀ {l : List Int}, l ∈ L.filterMap id ↔ some l ∈ L := by intro l; simp [List.mem_filterMap]
  obtain ⟨s1, s2, s3, s4⟩ := outK_spec (n := n) (L := L.filterMap id) (fun s hs => hL s (hmem.1 hs))
  generalize hK : outK (L.filterMap id) = K at hth s1 s2 s3 s4
  have hkey : ∀ {l : List Int}, some l ∈ L → ∃ p ∈ K, p.1 = l := fun {l} hl => cnOu_pos (by rw [s4]; exact cnSt_pos.2 (hmem.2 hl))
  have hin : ∀ {p : List Int × Nat}, p ∈ K → some p.1 ∈ L := fun {p} hp => hmem.1 (cnSt_pos.1 (by rw [← s4, cnOu_at s1 hp]; exact s3 p hp))
  have hthn : ∀ t, than = some t → t.length = n := by
    intro t ht
    rcases hth with ⟨h, _⟩ | ⟨p, i, _, h, h2⟩
    · rw [h] at ht; cases ht
    · rw [h] at ht; cases ht; exact s2 p (List.mem_of_getElem? h2)
  obtain ⟨l1, l2⟩ := leastO_spec than hthn L hL none (fun l h => by cases h)
  -- which of K are greater than 'than'
  have hgt : ∀ {i : Nat} {p : List Int × Nat}, K[i]? = some p → ((∀ t, than = some t → ltL t p.1 = true) ↔ j ≤ i) := by
    intro i p hp
    rcases hth with ⟨h, hj⟩ | ⟨q, i', hj, h, h2⟩
    · rw [h]; constructor
      · intro _; omega
      · intro _ t e; cases e
    · rw [h]
      constructor
      · intro hg
        have hg' := hg q.1 rfl
        refine Nat.le_of_not_lt fun hlt => ?_
        rcases Nat.lt_or_eq_of_le (by omega : i ≤ i') with h3 | h3
        · have := srt_get s1 h3 hp h2
          rw [ltL_asym this] at hg'; cases hg'
        · subst h3
          rw [hp] at h2; cases h2
          rw [ltL_irr] at hg'; cases hg'
      · intro hji t e
        cases e
        exact srt_get s1 (by omega) h2 hp
  cases hlo : leastO than none L with
  | none =>
    obtain ⟨_, k2⟩ := l2 hlo
    cases hj : K[j]? with
    | none => rfl
    | some p =>
      obtain ⟨t, t1, t2⟩ := k2 p.1 (hin (List.mem_of_getElem? hj))
      have := (hgt hj).2 (Nat.le_refl _) t t1
      rw [t2] at this; cases this
  | some m =>
    obtain ⟨m0, m1, _, m3⟩ := l1 m hlo
    rcases m1 with e | ⟨mL, mgt⟩
    · cases e
    · obtain ⟨p, hp, rfl⟩ := hkey mL
      obtain ⟨i, hi⟩ := List.mem_iff_getElem?.1 hp
      have hji := (hgt hi).1 mgt
      have hjlt : j < K.length := Nat.lt_of_le_of_lt hji (List.getElem?_eq_some_iff.1 hi).1
      obtain ⟨q, hq⟩ : ∃ q, K[j]? = some q := ⟨K[j], List.getElem?_eq_getElem hjlt⟩
      rcases Nat.lt_or_eq_of_le hji with h3 | h3
      · have h4 := m3 q.1 (hin (List.mem_of_getElem? hq)) ((hgt hq).2 (Nat.le_refl _))
        rw [srt_get s1 h3 hq hi] at h4; cases h4
      · subst h3
        rw [hi]; rfl

end Go.Proofs.YtomijmikkbhgmaaGreat
