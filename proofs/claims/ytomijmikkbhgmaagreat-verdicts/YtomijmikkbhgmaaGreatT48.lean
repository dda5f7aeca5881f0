import Derived.Test.YtomijmikkbhgmaaGreatSg
import Derived.Test.YtomijmikkbhgmaaGreatT43
import Derived.Test.YtomijmikkbhgmaaGreatT31
import Derived.Test.YtomijmikkbhgmaaGreatSi
namespace Go.Proofs.YtomijmikkbhgmaaGreat
open Go.RowKit

theorem Tryz.infoCase : (Tryz.prog.info? 96).map (fun i => (i.zero, i.size, i.bytes)) = some (some (.agg #[.int .i64 0, .slice none 0 0, .slice none 0 0, .slice none 0 0]), 4, 80) := by kernel_rfl

/-- The numbers of the allowed candidates. -/
def casN (al : Nat → Bool) (N : Nat) : List Nat := (List.range N).filter al
theorem casN_yes {al : Nat → Bool} {k : Nat} (h : al k = true) : casN al (k + 1) = casN al k ++ [k] := by unfold casN; rw [List.range_succ, List.filter_append]; simp [h]
theorem casN_no {al : Nat → Bool} {k : Nat} (h : al k = false) : casN al (k + 1) = casN al k := by unfold casN; rw [List.range_succ, List.filter_append]; simp [h]
theorem casN_len (al : Nat → Bool) (k : Nat) : (casN al k).length ≤ k := by unfold casN; exact Nat.le_trans (List.length_filter_le _ _) (by simp)
theorem casN_states (al : Nat → Bool) (T : List (List Ins)) (E : List Evt) (N : Nat) : (optL al T E N).filterMap id = (casN al N).map fun n => stX T E (exN E n) := by
  induction N with
  | zero => rfl
  | succ N ih =>
    rw [optL_step, List.filterMap_append, ih]
    cases h : al N
    · rw [casN_no h]; simp
    · rw [casN_yes h]; simp

/-- What lies about a case stays while what lies from block B on stays. -/
def StabB (T : List (List Ins)) (E : List Evt) (B : Nat) (w : World) (vf vo u : Value) (n : Nat) : Prop :=
  ∀ w' : World, w.heap.size ≤ w'.heap.size → (∀ b : Nat, B ≤ b → b < w.heap.size → w'.heap[b]? = w.heap[b]?) → ExeAt w' vf vo (exN E n) ∧ IntAt w' u (stX T E (exN E n))
theorem StabB.now {T : List (List Ins)} {E : List Evt} {B : Nat} {w : World} {vf vo u : Value} {n : Nat} (h : StabB T E B w vf vo u n) : ExeAt w vf vo (exN E n) ∧ IntAt w u (stX T E (exN E n)) := h w (Nat.le_refl _) (fun _ _ _ => rfl)
theorem StabB.keep {T : List (List Ins)} {E : List Evt} {B : Nat} {w w' : World} {vf vo u : Value} {n : Nat} (h : StabB T E B w vf vo u n) (hb : Below w.heap.size w w') : StabB T E B w' vf vo u n :=
  fun w'' hs hk => h w'' (Nat.le_trans hb.size hs) (fun b h1 h2 => (hk b h1 (Nat.lt_of_lt_of_le h2 hb.size)).trans (hb.block b h2))

/-- A case with its number. -/
def CasC (T : List (List Ins)) (E : List Evt) (B : Nat) (w : World) (b off : Nat) (n : Nat) : Prop := ∃ vf vo u, w.cell? ⟨b, off, none⟩ = some (.int .i64 n) ∧ w.cell? ⟨b, off + 1, none⟩ = some vf ∧ w.cell? ⟨b, off + 2, none⟩ = some vo ∧ w.cell? ⟨b, off + 3, none⟩ = some u ∧ StabB T E B w vf vo u n
def CasAt (T : List (List Ins)) (E : List Evt) (B : Nat) (w : World) (v : Value) (C : List Nat) : Prop := ∃ ao b off cap, SlAt w 4 (CasC T E B) v C ao b off cap
theorem casC_keeps (T : List (List Ins)) (E : List Evt) (B : Nat) : Keeps (CasC T E B) := fun _ _ _ _ _ hb ⟨vf, vo, u, h1, h2, h3, h4, h5⟩ => ⟨vf, vo, u, keep_cell hb h1, keep_cell hb h2, keep_cell hb h3, keep_cell hb h4, h5.keep hb⟩

/-- What lies about a case stays while nothing but V's own row turns. -/
def StabC (T : List (List Ins)) (E : List Evt) (B : Nat) (w : World) (V vf vo u : Value) (n : Nat) : Prop :=
  ∀ w' : World, w.heap.size ≤ w'.heap.size → (∀ b : Nat, B ≤ b → b < w.heap.size → V.ownBlock ≠ some b → w'.heap[b]? = w.heap[b]?) → ExeAt w' vf vo (exN E n) ∧ IntAt w' u (stX T E (exN E n))

structure CL (T : List (List Ins)) (E : List Evt) (w : World) (base : Nat) (V : Value) (C : List Nat) (vs : List Value) : Prop where
  own : w.ownsRow base 96 4 V C.length vs
  rows : ∀ (j n : Nat), C[j]? = some n → ∃ vf vo u, vs[j * 4]? = some (.int .i64 n) ∧ vs[j * 4 + 1]? = some vf ∧ vs[j * 4 + 2]? = some vo ∧ vs[j * 4 + 3]? = some u ∧ StabC T E base w V vf vo u n

theorem CL.nil (T : List (List Ins)) (E : List Evt) (w : World) (base : Nat) : CL T E w base (.slice none 0 0) [] [] := ⟨World.ownsRow_nil _ _ _ _, fun j x h => by simp at h⟩

theorem CL.keep {T : List (List Ins)} {E : List Evt} {w w' : World} {base : Nat} {V : Value} {C : List Nat} {vs : List Value} (h : CL T E w base V C vs) (hb : Below w.heap.size w w') : CL T E w' base V C vs := by
  refine ⟨own_keep h.own hb, fun j x hx => ?_⟩
  obtain ⟨vf, vo, u, h1, h2, h3, h4, h5⟩ := h.rows j x hx
  exact ⟨vf, vo, u, h1, h2, h3, h4, fun w'' hs hk => h5 w'' (Nat.le_trans hb.size hs) (fun b hb0 hb1 hb2 => (hk b hb0 (Nat.lt_of_lt_of_le hb1 hb.size) hb2).trans (hb.block b hb1))⟩

theorem CL.snoc {T : List (List Ins)} {E : List Evt} {w w2 : World} {base : Nat} {V V' : Value} {C : List Nat} {vs : List Value} (h : CL T E w base V C vs) {n : Nat} {vf vo u : Value} {o : Obj} (hst : StabC T E base w V vf vo u n)
    (hown : w2.ownsRow base 96 4 V' (C.length + 1) (vs ++ [.int .i64 n, vf, vo, u])) (hg : (w.alloc o).grownBy w2 V.ownBlock) (hap : ∀ g, V'.ownBlock = some g → V.ownBlock = some g ∨ w.heap.size + 1 ≤ g) : CL T E w2 base V' (C ++ [n]) (vs ++ [.int .i64 n, vf, vo, u]) := by
  have hsz : w.heap.size + 1 ≤ w2.heap.size := by have := hg.size; simpa using this
  have hstab : ∀ f o u y, StabC T E base w V f o u y → StabC T E base w2 V' f o u y := by
    intro f o u y hy w'' hs hk
    refine hy w'' (by omega) (fun b hb0 hb1 hb2 => ?_)
    have hne : V'.ownBlock ≠ some b := fun e => by
      rcases hap b e with e' | e'
      · exact hb2 e'
      · omega
    rw [hk b hb0 (by omega) hne, hg.block b (by simp; omega) (fun e => hb2 e.symm), Below.heap_alloc _ _ _ hb1]
  have hlen : vs.length = C.length * 4 := h.own.1
  refine ⟨by simpa using hown, fun j y hy => ?_⟩
  by_cases hj : j < C.length
  · rw [List.getElem?_append_left hj] at hy
    obtain ⟨f, o, u', h1, h2, h3, h4, h5⟩ := h.rows j y hy
    refine ⟨f, o, u', ?_, ?_, ?_, ?_, hstab _ _ _ _ h5⟩ <;> rw [List.getElem?_append_left (by omega)] <;> assumption
  · have hjL : j = C.length := by
      have := (List.getElem?_eq_some_iff.1 hy).1
      simp at this; omega
    subst hjL
    rw [List.getElem?_append_right (Nat.le_refl _), Nat.sub_self] at hy
    simp at hy
    subst hy
    refine ⟨vf, vo, u, ?_, ?_, ?_, ?_, hstab _ _ _ _ hst⟩
    · rw [List.getElem?_append_right (by omega), hlen, Nat.sub_self]; rfl
    · rw [List.getElem?_append_right (by omega), hlen, show C.length * 4 + 1 - C.length * 4 = 1 by omega]; rfl
    · rw [List.getElem?_append_right (by omega), hlen, show C.length * 4 + 2 - C.length * 4 = 2 by omega]; rfl
    · rw [List.getElem?_append_right (by omega), hlen, show C.length * 4 + 3 - C.length * 4 = 3 by omega]; rfl

theorem CL.read {T : List (List Ins)} {E : List Evt} {w : World} {base : Nat} {V : Value} {C : List Nat} {vs : List Value} (h : CL T E w base V C vs) {B : Nat} (hB : B ≤ base) : CasAt T E B w V C := by
  rcases h.own.2 with ⟨hv, hn⟩ | ⟨g, cap, cur, hv, hg, hh, _⟩
  · have h0 : C = [] := List.eq_nil_of_length_eq_zero hn
    subst h0
    exact ⟨none, 0, 0, 0, hv, fun h => absurd rfl h, fun _ => ⟨rfl, rfl⟩, fun k x h => by simp at h⟩
  · refine ⟨_, g, 0, cap, hv, fun _ => rfl, fun h => by simp at h, fun k x hk => ?_⟩
    obtain ⟨vf, vo, u, h1, h2, h3, h4, h5⟩ := h.rows k x hk
    have c1 := h.own.cells (g := g) (by rw [hv]; rfl) (k * 4) _ h1
    have c2 := h.own.cells (g := g) (by rw [hv]; rfl) (k * 4 + 1) _ h2
    have c3 := h.own.cells (g := g) (by rw [hv]; rfl) (k * 4 + 2) _ h3
    have c4 := h.own.cells (g := g) (by rw [hv]; rfl) (k * 4 + 3) _ h4
    rw [Addr.add_lit] at c1 c2 c3 c4
    exact ⟨vf, vo, u, c1, by rw [Nat.add_assoc]; exact c2, by rw [Nat.add_assoc]; exact c3, by rw [Nat.add_assoc]; exact c4, fun w' hs hk => h5 w' hs (fun b h1 h2 _ => hk b (by omega) h2)⟩

theorem stab_case {T : List (List Ins)} {E : List Evt} {B : Nat} {w1 w3 w5 w6 : World} {V vf vo u : Value} {n : Nat} (hB : B ≤ w1.heap.size) (hx : ExeN w1.heap.size w3 vf vo (exN E n)) (hu : IntNew w5.heap.size w6 u (stX T E (exN E n))) (h13 : w1.heap.size ≤ w3.heap.size) (h35 : Below w3.heap.size w3 w5) (h36 : Below w3.heap.size w3 w6) (hV : ∀ g, V.ownBlock = some g → g < w1.heap.size) : StabC T E B w6 V vf vo u n := by
  intro w' hs hk
  have h5 := h35.size
  have h6 := h36.size
  refine ⟨hx.other (fun b hb1 hb2 => ?_), hu.at'.other (fun b hb => ?_)⟩
  · rw [hk b (by omega) (by omega) (fun e => by have := hV b e; omega), h36.block b hb2]
  · obtain ⟨q1, q2⟩ := hu.own (stX_ne _ _ _) b hb
    exact hk b (by omega) q2 (fun e => by have := hV b e; omega)

set_option maxRecDepth 20000 in
set_option maxHeartbeats 4000000 in
theorem cases_any (T : List (List Ins)) (c : List Atm) (hz : ((chk T c).1 == 0) = true) (al : Nat → Bool) (hal : Als T (evsT T 0) al) (vt v : Value) (w : World) (ht : ThrAt w vt T) (h : Ev4Cap w v (evsT T 0)) :
    Calls Tryz.prog 85 #[vt, v] w fun e w' => ∃ u, e = .returned u ∧ CasAt T (evsT T 0) w.heap.size w' u (casN al (sizeN (evsT T 0))) ∧ Below w.heap.size w w' := by
  have hF := fits_of hz
  have hM := mts_of hz
  have hN := chk_many_no hz
  have hin := evsIn_T T
  have HCT : Hid (∀ w', Below w.heap.size w w' → Calls Tryz.prog 118 #[v] w' fun e w'' => e = .returned (.int .i64 (sizeN (evsT T 0) : Nat)) ∧ Below w'.heap.size w' w'') := fun w' hb => by
    have := countP_any (evsT T 0) hF.el v w' (h.at'.keep hb)
    rw [cap2_of_le (by omega)] at this
    exact this
  have HNT : Hid (∀ n w', n < sizeN (evsT T 0) → Below w.heap.size w w' → Calls Tryz.prog 119 #[v, .int .i64 n] w' fun e w'' => ∃ vf vo, e = .returned (.tuple #[.agg #[vf, vo], .int .i64 0]) ∧ ExeN w'.heap.size w'' vf vo (exN (evsT T 0) n) ∧ Below w'.heap.size w' w'') := fun n w' hn hb => nth_new (evsT T 0) hF.el v n w' (h.at'.keep hb) hn hN
  obtain ⟨rj, hrj⟩ : ∃ rj : Nat → Int, ∀ n, JudIs (Cyc (evsT T 0).length (cohA (evsT T 0) (exN (evsT T 0) n))) (tornB (evsT T 0) (exN (evsT T 0) n)) (Cyc (evsT T 0).length (kepA T (evsT T 0) (exN (evsT T 0) n))) (¬ Parts (evsT T 0).length (mtL (thoL 2 (evsT T 0) 0) (thoL 3 (evsT T 0) 0) (thoL 4 (evsT T 0) 0)) (kepA T (evsT T 0) (exN (evsT T 0) n))) (rj n) :=
    ⟨fun n => Classical.choose (JudIs.ex _ _ _ _), fun n => Classical.choose_spec (JudIs.ex _ _ _ _)⟩
  have HRZ : Hid (∀ n, n < sizeN (evsT T 0) → (rj n == 0) = al n) := fun n hn => by
    rw [Bool.eq_iff_iff, hal n hn, beq_iff_eq]
    exact (hrj n).zero
  have HJD : Hid (∀ n vf vo w', Below w.heap.size w w' → ExeAt w' vf vo (exN (evsT T 0) n) → Calls Tryz.prog 54 #[vt, v, .agg #[vf, vo]] w' fun e w'' => e = .returned (.int .i64 (rj n)) ∧ Below w'.heap.size w' w'') := fun n vf vo w' hb hx => by
    have hxx := exN_isEx (evsT T 0) n
    have hrk := hxx.ranks hF.el hF.locs
    obtain ⟨j1, j2, j3, j4⟩ := judge_same' (T := T) rfl hF.el hF.locs hxx
    have hfl : (exN (evsT T 0) n).from'.length ≤ 96 := by have h1 := hxx.f; have h2 := rdsX_len (evsT T 0) 0; have h3 := hF.el; omega
    refine (of_any T hF.short vt (evsT T 0) hF.el hin hM (exN (evsT T 0) n) hfl (by have := hxx.o3; omega) (hxx.xok hF.el hF.locs).l96 hrk.bound v _ _ w' (ht.keep hb) (h.keep hb) hx).mono ?_
    rintro e w'' ⟨r, he, hj, hb'⟩
    exact ⟨by rw [he, (hj.congr' j1 j2 j3 j4).one (hrj n)], hb'⟩
  have HST : Hid (∀ n vf vo w', n < sizeN (evsT T 0) → al n = true → Below w.heap.size w w' → ExeAt w' vf vo (exN (evsT T 0) n) → Calls Tryz.prog 40 #[vt, v, .agg #[vf, vo]] w' fun e w'' => ∃ u, e = .returned u ∧ IntNew w'.heap.size w'' u (stX T (evsT T 0) (exN (evsT T 0) n)) ∧ Below w'.heap.size w' w'') := fun n vf vo w' hn ha hb hx => by
    have hxx := exN_isEx (evsT T 0) n
    refine (stateOf_any T hF.short vt (evsT T 0) hF.el hin _ hxx v vf vo w' (ht.keep hb) (h.at'.keep hb) hx).mono ?_
    rintro e w'' ⟨u, he, hu, hb'⟩
    rw [sta_same rfl hF.el hF.locs hxx (alw_cyc ((hal n hn).1 ha))] at hu
    exact ⟨u, he, hu, hb'⟩
  have HCY : Hid (∀ k, al k = true → casN al (k + 1) = casN al k ++ [k]) := fun k hk => casN_yes hk
  have HCN : Hid (∀ k, al k = false → casN al (k + 1) = casN al k) := fun k hk => casN_no hk
  have HCL : Hid (∀ k, (casN al k).length ≤ k) := fun k => casN_len al k
  have HC0 : Hid (casN al 0 = []) := rfl
  obtain ⟨_, aoT, bT, offT, capT, hvT, _⟩ := ht
  obtain ⟨ao, b, off, cap, ⟨hv, _, _, _⟩, _⟩ := h
  subst hv hvT
  clear hrj hal hz hM hin hF
  generalize evsT T 0 = E at *
  generalize casN al = CN at *
  generalize sizeN E = N at *
  obtain ⟨i1, hi, hz0, hz1, hz2⟩ := info_parts Tryz.infoCase
  have HI : Hid (Tryz.prog.info? 96 = some i1 ∧ i1.zero = some (.agg #[.int .i64 0, .slice none 0 0, .slice none 0 0, .slice none 0 0]) ∧ i1.size = 4 ∧ i1.bytes = 80) := ⟨hi, hz0, hz1, hz2⟩
  clear hi hz0 hz1 hz2
  go_enter Tryz.func85, Tryz.ntmps85
  go_wp2_with fail
  refine (HCT.out w (Below.refl _ _)).mono ?_
  rintro e w2 ⟨rfl, hb2⟩
  clear HCT
  go_wp2_with fail
  go_loopw [5, 7] (fun u i wr => ∃ (k : Nat) (vs : List Value), k ≤ N ∧ i = .int .i64 k ∧ Hid (CL T E wr w2.heap.size u (CN k) vs) ∧ Below w2.heap.size w2 wr) (fun _ i _ => N - (intOf i).toNat)
  case atStart => exact ⟨0, [], Nat.zero_le _, rfl, by show CL _ _ _ _ _ _ _; rw [HC0.out]; exact CL.nil _ _ _ _, Below.refl _ _⟩
  case round =>
    clear HC0
    obtain ⟨k, vs, hk, rfl, hCL, hb⟩ := hrel
    have hbw := below_more hb2 hb
    by_cases hlt : k < N
    · have hkI : (k : Int) < (N : Int) := by omega
      have hrz := HRZ.out k hlt
      have hcl := HCL.out k
      go_wp2_with fail
      refine (HNT.out k wr hlt hbw).mono ?_
      rintro e w3 ⟨vf, vo, rfl, hxn, hb3⟩
      obtain ⟨aof, capf, hff⟩ := hxn.at'.f.form
      obtain ⟨aoo, bo, offo, capo, hso⟩ := hxn.at'.o
      have hfo := hso.hv
      clear hso
      subst hff hfo
      generalize hlf : (exN E k).from'.length = lf at *
      generalize hlo : (exN E k).order.length = lo at *
      clear hlf hlo
      have HXN : Hid (ExeN wr.heap.size w3 (.slice aof lf capf) (.slice aoo lo capo) (exN E k)) := hxn
      have hbw3 := below_more hbw hb3
      have hba3 := below_alloc w3 (.cells #[.slice aof lf capf, .slice aoo lo capo] 29)
      have hbw4 := below_more hbw3 hba3
      have hJ1 := HJD.out k _ _ _ hbw4 (hxn.at'.keep hba3)
      have HJ1 : Hid (Calls Tryz.prog 54 #[.slice aoT T.length capT, .slice ao E.length cap, .agg #[.slice aof lf capf, .slice aoo lo capo]] (w3.alloc (.cells #[.slice aof lf capf, .slice aoo lo capo] 29)) fun e w'' => e = .returned (.int .i64 (rj k)) ∧ Below (w3.alloc (.cells #[.slice aof lf capf, .slice aoo lo capo] 29)).heap.size (w3.alloc (.cells #[.slice aof lf capf, .slice aoo lo capo] 29)) w'') := hJ1
      have HS1 : Hid (∀ w', al k = true → Below w3.heap.size w3 w' → Calls Tryz.prog 40 #[.slice aoT T.length capT, .slice ao E.length cap, .agg #[.slice aof lf capf, .slice aoo lo capo]] w' fun e w'' => ∃ u, e = .returned u ∧ IntNew w'.heap.size w'' u (stX T E (exN E k)) ∧ Below w'.heap.size w' w'') := fun w' ha hb' => HST.out k _ _ w' hlt ha (below_more hbw3 hb') (HXN.out.at'.keep hb')
      generalize rj k = r at HJ1 hrz
      clear hxn hJ1
      go_wp2_with fail
      refine HJ1.out.mono ?_
      rintro e w5 ⟨rfl, hb45⟩
      have hb35 := below_more hba3 hb45
      have x0 := keep_cell hb45 (b := w3.heap.size) (off := 0) (u := .slice aof lf capf) (by simp)
      have x1 := keep_cell hb45 (b := w3.heap.size) (off := 1) (u := .slice aoo lo capo) (by simp)
      have hb15 := below_more hb3 hb35
      clear HJ1 hb45
      cases hr : r == 0
      · have hak : al k = false := by rw [← hrz]; exact hr
        have HC5 : Hid (CL T E w5 w2.heap.size u5 (CN (k + 1)) vs) := by rw [HCN.out k hak]; exact hCL.out.keep hb15
        have hb25 := below_more hb hb15
        clear hCL x0 x1
        go_wp2_with fail
        go_roundw
        case measure => simp [intOf]; omega
        case rel => exact ⟨k + 1, vs, by omega, by go_num, HC5.out, hb25⟩
      · have hak : al k = true := by rw [← hrz]; exact hr
        go_wp2_with fail
        refine (HS1.out w5 hak hb35).mono ?_
        rintro e w6 ⟨u6, rfl, hu6, hb6⟩
        have hb36 := below_more hb35 hb6
        have hb16 := below_more hb15 hb6
        have hVl := hCL.out.own.lt
        have HSB : Hid (StabC T E w2.heap.size w6 u5 (.slice aof lf capf) (.slice aoo lo capo) u6 k) := stab_case hb.size HXN.out hu6 hb3.size hb35 hb36 (fun g hg => (hVl g hg).2)
        have HC6 : Hid (CL T E w6 w2.heap.size u5 (CN k) vs) := hCL.out.keep hb16
        have HO6 : Hid (w6.ownsRow w2.heap.size 96 4 u5 (CN k).length vs) := HC6.out.own
        obtain ⟨ao6, cap6, hf6⟩ := hu6.at'.form
        have hb26 := below_more hb hb16
        have hs6 := hb26.size
        replace x0 := keep_cell hb6 x0
        replace x1 := keep_cell hb6 x1
        clear hu6 hVl
        subst hf6
        generalize (stX T E (exN E k)).length = l6 at *
        generalize hcl2 : (CN k).length = lc at *
        go_wp2_with (at_builtin; refine append_new _ rfl _ _ 126 rfl w2.heap.size 96 i1 (.agg #[.int .i64 0, .slice none 0 0, .slice none 0 0, .slice none 0 0]) 4 80 Tryz.underlying126 HI.out.1 HI.out.2.1 HI.out.2.2.1 HI.out.2.2.2 rfl (by decide) u5 lc vs rfl (HO6.out.alloc _) (some ⟨w6.heap.size, 0, none⟩) 1 1 [.int .i64 k, .slice aof lf capf, .slice aoo lo capo, .slice ao6 l6 cap6] rfl (fun h => by cases h) rfl (fun ad had => by cases had; exact new_many rfl) (by simp [Value.oneCell']) (by unfold maxLen; omega) (by omega) (by simp; omega) ?_)
        intro V8 w8 hown8 hgrow8 hap8
        have HC8 : Hid (CL T E w8 w2.heap.size V8 (CN (k + 1)) (vs ++ [.int .i64 k, .slice aof lf capf, .slice aoo lo capo, .slice ao6 l6 cap6])) := by
          rw [HCY.out k hak]
          exact HC6.out.snoc HSB.out (by rw [hcl2]; exact hown8) hgrow8 (by simpa using hap8)
        have HB8 : Hid (Below w2.heap.size w2 w8) := Below.grown (hb26.alloc hs6 _) hgrow8 (by simp; omega) (fun kk e => (HO6.out.lt kk e).1)
        clear hown8 hgrow8 hap8
        go_wp2_with fail
        go_roundw
        case measure => simp [intOf]; omega
        case rel => exact ⟨k + 1, _, by omega, by go_num, HC8.out, HB8.out⟩
    · have hkN : k = N := by omega
      have HOK : Hid (CasAt T E w.heap.size wr u5 (CN N)) := by have := hCL.out.read hb2.size; rw [hkN] at this; exact this
      have hkI : (N : Int) ≤ (k : Int) := by omega
      clear hkN hCL
      go_wp2_with fail
      go_ret
      exact ⟨_, rfl, HOK.out, hbw⟩

end Go.Proofs.YtomijmikkbhgmaaGreat

namespace Go.Proofs.YtomijmikkbhgmaaGreat
open Go.RowKit

theorem idxA_at {n : Nat} {x : Atm} (h : atmB x n = true) : ((idxA n x : Nat) : Int) = if x.thread == -1 then 3 * (n : Int) + x.at' else 3 * x.thread + x.at' := by
  unfold idxA
  rcases atm_range h with ⟨h1, h2, h3⟩ | ⟨h1, h2, h3, h4⟩
  · rw [h1]; simp; omega
  · have : (x.thread == -1) = false := by simp; omega
    rw [this]; simp; omega
theorem idxA_lt {n : Nat} {x : Atm} (h : atmB x n = true) : idxA n x < 3 * n + 3 := by
  have := idxA_at h
  rcases atm_range h with ⟨h1, h2, h3⟩ | ⟨h1, h2, h3, h4⟩
  · rw [h1] at this; simp at this; omega
  · have h5 : (x.thread == -1) = false := by simp; omega
    rw [h5] at this; simp at this; omega

set_option maxRecDepth 20000 in
theorem placeOfS_any (n : Nat) (hn : n ≤ 4) (x : Atm) (h : atmB x n = true) (w : World) :
    Calls Tryz.prog 130 #[.int .i64 n, .int .i64 x.thread, .int .i64 x.at'] w fun e w' => e = .returned (.int .i64 (idxA n x : Nat)) ∧ Below w.heap.size w w' := by
  have hix := idxA_at h
  have hlt := idxA_lt h
  rcases atm_range h with ⟨h1, h2, h3⟩ | ⟨h1, h2, h3, h4⟩
  · have e0 : decide (x.thread < 0) = true := by simp; omega
    have e1 : (n : Int) * 3 + x.at' = ((idxA n x : Nat) : Int) := by rw [hix, h1]; simp; omega
    have e2 : IntKind.i64.wrap ((n : Int) * 3) = (n : Int) * 3 := by rw [IntKind.wrap_i64]; omega
    have e3 : IntKind.i64.wrap ((idxA n x : Nat) : Int) = ((idxA n x : Nat) : Int) := by rw [IntKind.wrap_i64]; omega
    have h10 : x.thread < 0 := by omega
    generalize idxA n x = ix at *
    clear hix h
    go_enter Tryz.func130, Tryz.ntmps130
    go_wp2_with fail
    go_ret
    exact ⟨rfl, Below.refl _ _⟩
  · have e1 : x.thread * 3 + x.at' = ((idxA n x : Nat) : Int) := by
      rw [hix]
      have h5 : (x.thread == -1) = false := by simp; omega
      rw [h5]; simp; omega
    have e2 : IntKind.i64.wrap (x.thread * 3) = x.thread * 3 := by rw [IntKind.wrap_i64]; omega
    have e3 : IntKind.i64.wrap ((idxA n x : Nat) : Int) = ((idxA n x : Nat) : Int) := by rw [IntKind.wrap_i64]; omega
    generalize idxA n x = ix at *
    clear hix h
    go_enter Tryz.func130, Tryz.ntmps130
    go_wp2_with fail
    go_ret
    exact ⟨rfl, Below.refl _ _⟩

set_option maxRecDepth 20000 in
set_option maxHeartbeats 2000000 in
theorem holdsP_any (T : List (List Ins)) (hT : T.length ≤ 4) (fa : Bool) (c : List Atm) (hc : AtmsOk T.length c) (vt vc : Value) (s : List Int) (hs : s.length = 3 * T.length + 3) (v : Value) (w : World) (h : TestAt w (.agg #[vt, .bool fa, vc]) T fa c vt vc) (hv : IntAt w v s) :
    Calls Tryz.prog 95 #[.agg #[vt, .bool fa, vc], v] w fun e w' => e = .returned (.bool (metB T.length c s)) ∧ Below w.heap.size w w' := by
  obtain ⟨ht0, aot, bt, offt, capt, htv, _⟩ := h.ht.opened
  obtain ⟨hc0, aoc, bc, offc, capc, hvc, hac, _, hcc⟩ := h.hc
  obtain ⟨ao, b, off, cap, hv1, ha, _, hcs⟩ := hv
  subst htv hvc hv1
  have HC : Hid (∀ k x, c[k]? = some x → AtmC w bc (offc + k * 3) x) := hcc
  have HS : Hid (∀ k x, s[k]? = some x → w.cell? ⟨b, off + k, none⟩ = some (.int .i64 x)) := fun k x hx => by
    have := hcs k x hx
    unfold IntC at this
    rw [Nat.mul_one] at this; exact this
  have HOK : Hid (AtmsOk T.length c ∧ s.length = 3 * T.length + 3) := ⟨hc, hs⟩
  have HPO : Hid (∀ (x : Atm) (w' : World), x ∈ c → Calls Tryz.prog 130 #[.int .i64 T.length, .int .i64 x.thread, .int .i64 x.at'] w' fun e w'' => e = .returned (.int .i64 (idxA T.length x : Nat)) ∧ Below w'.heap.size w' w'') := fun x w' hx => placeOfS_any T.length hT x (hc x hx) w'
  obtain rfl := ha (by intro h; rw [h] at hs; simp at hs)
  have HB : Hid (metB T.length c s = (c.drop 0).all fun a => s.getD (idxA T.length a) 0 == a.val) := rfl
  generalize metB T.length c s = B at HB ⊢
  have hsl : s.length ≤ 100 := by omega
  clear hcc hcs h hc hs ha
  go_enter Tryz.func95, Tryz.ntmps95
  go_wp2_with fail
  have hba := below_alloc w (.cells #[.slice aot T.length capt, .bool fa, .slice aoc c.length capc] 25)
  have HBX : Hid ((w.alloc (.cells #[.slice aot T.length capt, .bool fa, .slice aoc c.length capc] 25)).cell? ⟨w.heap.size, 0, none⟩ = some (.slice aot T.length capt) ∧ (w.alloc (.cells #[.slice aot T.length capt, .bool fa, .slice aoc c.length capc] 25)).cell? ⟨w.heap.size, 2, none⟩ = some (.slice aoc c.length capc)) := ⟨by simp, by simp⟩
  generalize w.alloc (.cells #[.slice aot T.length capt, .bool fa, .slice aoc c.length capc] 25) = W at hba HBX ⊢
  have t2 := HBX.out.2
  go_wp2_with fail
  clear t2
  go_loopw [11] (fun i wr => ∃ k : Nat, k ≤ c.length ∧ i = .int .i64 k ∧ Hid (B = (c.drop k).all fun a => s.getD (idxA T.length a) 0 == a.val) ∧ Below W.heap.size W wr) (fun i _ => c.length - (intOf i).toNat)
  case atStart => exact ⟨0, Nat.zero_le _, rfl, HB.out, Below.refl _ _⟩
  case round =>
    clear HB
    obtain ⟨k, hk, rfl, hn, hb⟩ := hrel
    have t0 := keep_cell hb HBX.out.1
    have hbw := below_more hba hb
    by_cases hlt : k < c.length
    · obtain ⟨x, hx⟩ := get_of_lt hlt
      obtain rfl := hac (ne_nil hlt)
      obtain ⟨c0, c1, c2⟩ := (atmC_keeps _ _ _ _ _ hbw (HC.out k x hx))
      have m0 := World.block_lt_of_cell? _ _ c0
      have m1 := World.block_lt_of_cell? _ _ t0
      simp only at m0 m1
      have hkI : (k : Int) < (c.length : Int) := by omega
      have hxm := List.mem_of_getElem? hx
      have hidx : idxA T.length x < s.length := by rw [HOK.out.2]; exact idxA_lt (HOK.out.1 x hxm)
      obtain ⟨y, hy⟩ := get_of_lt hidx
      have HN : Hid (B = ((y == x.val) && (c.drop (k + 1)).all fun a => s.getD (idxA T.length a) 0 == a.val)) := hn.out.trans (by rw [drop_cons hx, List.all_cons, List.getD, hy]; rfl)
      have s0 := keep_cell hbw (HS.out _ y hy)
      have ms0 := World.block_lt_of_cell? _ _ s0
      simp only at ms0
      have HP1 : Hid (∀ w', Calls Tryz.prog 130 #[.int .i64 T.length, .int .i64 x.thread, .int .i64 x.at'] w' fun e w'' => e = .returned (.int .i64 (idxA T.length x : Nat)) ∧ Below w'.heap.size w' w'') := fun w' => HPO.out x w' hxm
      generalize idxA T.length x = ix at *
      have hixI : (ix : Int) < (s.length : Int) := by omega
      have hix0 : decide ((ix : Int) < 0) = false := by simp
      have hix1 : decide ((s.length : Int) ≤ (ix : Int)) = false := by simp; omega
      have hix2 : decide (s.length ≤ ix) = false := by simp; omega
      clear hn hx hy hxm
      go_wp2_with fail
      refine (HP1.out _).mono ?_
      rintro e w5 ⟨rfl, hb5⟩
      have hba5 := below_alloc wr (.cells #[.int .i64 x.thread, .int .i64 x.at', .int .i64 x.val] 104)
      have hb15 := below_more hba5 hb5
      have a2 := keep_cell hb5 (b := wr.heap.size) (off := 2) (u := .int .i64 x.val) (by simp)
      replace s0 := keep_cell hb15 s0
      have hbW5 := below_more hb hb15
      clear c0 c1 c2 t0 hb5 hba5 hb15 hb
      generalize wr.heap.size = Bx at a2
      have g0 := grown_cell a2
      have g1 := grown_cell s0
      have hnw := grw_some w5
      clear a2 s0
      cases hyv : y == x.val
      · have hyv' : (y != x.val) = true := by simp [bne, hyv]
        have HM : Hid (B = false) := HN.out.trans (by rw [hyv]; rfl)
        go_wp2_with fail
        refine wp_region_grown (by kernel_rfl) (by kernel_rfl) ?_
        repeat (go_big_quiet_step (fail))
        refine wpQuiet_nil ?_
        intro w7 hw7
        obtain ⟨⟨w7', hb7⟩, rfl⟩ := hw7
        clear g0 g1
        go_wp2_with fail
        go_ret
        exact ⟨by rw [HM.out]; rfl, below_more hba (below_more hbW5 hb7)⟩
      · have hyv' : (y != x.val) = false := by simp [bne, hyv]
        have HM : Hid (B = (c.drop (k + 1)).all fun a => s.getD (idxA T.length a) 0 == a.val) := HN.out.trans (by rw [hyv, Bool.true_and])
        go_wp2_with fail
        refine wp_region_grown (by kernel_rfl) (by kernel_rfl) ?_
        repeat (go_big_quiet_step (fail))
        refine wpQuiet_nil ?_
        intro w7 hw7
        obtain ⟨⟨w7', hb7⟩, rfl⟩ := hw7
        clear g0 g1
        go_wp2_with fail
        go_roundw
        case measure => simp [intOf]; omega
        case rel => exact ⟨k + 1, by omega, by go_num, HM.out, below_more hbW5 hb7⟩
    · have HM : Hid (B = true) := hn.out.trans (by rw [drop_nil hlt]; rfl)
      have hkI : (c.length : Int) ≤ (k : Int) := by omega
      clear hn
      go_wp2_with fail
      go_ret
      exact ⟨by rw [HM.out]; rfl, hbw⟩

set_option maxRecDepth 20000 in
theorem named_any (g b : Nat) (w : World) :
    Calls Tryz.prog 96 #[.int .i64 g, .int .i64 b] w fun e w' => e = .returned (.int .i64 (if g == 0 then 0 else if b == 0 then 2 else 1)) ∧ Below w.heap.size w w' := by
  rcases Nat.eq_zero_or_pos g with hg | hg
  · subst hg
    go_enter Tryz.func96, Tryz.ntmps96
    go_wp2_with fail
    go_ret
    exact ⟨rfl, Below.refl _ _⟩
  · have hge : ((g : Int) == 0) = false := by simp; omega
    have hgn : (g == 0) = false := by simp; omega
    rw [hgn]
    rcases Nat.eq_zero_or_pos b with hb | hb
    · subst hb
      go_enter Tryz.func96, Tryz.ntmps96
      go_wp2_with fail
      go_ret
      exact ⟨rfl, Below.refl _ _⟩
    · have hbe : ((b : Int) == 0) = false := by simp; omega
      have hbn : (b == 0) = false := by simp; omega
      rw [hbn]
      go_enter Tryz.func96, Tryz.ntmps96
      go_wp2_with fail
      go_ret
      exact ⟨rfl, Below.refl _ _⟩

end Go.Proofs.YtomijmikkbhgmaaGreat
