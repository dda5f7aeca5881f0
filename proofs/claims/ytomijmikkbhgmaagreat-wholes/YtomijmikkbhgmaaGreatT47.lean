import Derived.Test.YtomijmikkbhgmaaGreatSg
import Derived.Test.YtomijmikkbhgmaaGreatT43
import Derived.Test.YtomijmikkbhgmaaGreatT31
import Derived.Test.YtomijmikkbhgmaaGreatT46
namespace Go.Proofs.YtomijmikkbhgmaaGreat
open Go.RowKit

theorem Tryz.infoCase : (Tryz.prog.info? 96).map (fun i => (i.zero, i.size, i.bytes)) = some (some (.agg #[.int .i64 0, .slice none 0 0, .slice none 0 0, .slice none 0 0]), 4, 80) := by kernel_rfl

/-- The numbers of the allowed candidates. -/
def casN (al : Nat → Bool) (N : Nat) : List Nat := (List.range N).filter al
theorem casN_yes {al : Nat → Bool} {k : Nat} (h : al k = true) : casN al (k + 1) = casN al k ++ [k] := by unfold casN; rw [List.range_succ, List.filter_append]; simp [h]
theorem casN_no {al : Nat → Bool} {k : Nat} (h : al k = false) : casN al (k + 1) = casN al k := by unfold casN; rw [List.range_succ, List.filter_append]; simp [h]
theorem casN_len (al : Nat → Bool) (k : Nat) : (casN al k).length ≤ k := by unfold casN; exact Nat.le_trans (List.length_filter_le _ _) (by simp)
theorem casN_states (al : Nat → Bool) (T : List (List Ins)) (E : List Evt) (N : Nat) : (optL al T E N).filterMap id = (casN al N).map fun n => stX T E (exN E n) := by
  induction N with
  | zero => rfl
  | succ N ih =>
    rw [optL_step, List.filterMap_append, ih]
    cases h : al N
    · rw [casN_no h]; simp
    · rw [casN_yes h]; simp

/-- What lies about a case stays while what lies from block B on stays. -/
def StabB (T : List (List Ins)) (E : List Evt) (B : Nat) (w : World) (vf vo u : Value) (n : Nat) : Prop :=
  ∀ w' : World, w.heap.size ≤ w'.heap.size → (∀ b : Nat, B ≤ b → b < w.heap.size → w'.heap[b]? = w.heap[b]?) → ExeAt w' vf vo (exN E n) ∧ IntAt w' u (stX T E (exN E n))
theorem StabB.now {T : List (List Ins)} {E : List Evt} {B : Nat} {w : World} {vf vo u : Value} {n : Nat} (h : StabB T E B w vf vo u n) : ExeAt w vf vo (exN E n) ∧ IntAt w u (stX T E (exN E n)) := h w (Nat.le_refl _) (fun _ _ _ => rfl)
theorem StabB.keep {T : List (List Ins)} {E : List Evt} {B : Nat} {w w' : World} {vf vo u : Value} {n : Nat} (h : StabB T E B w vf vo u n) (hb : Below w.heap.size w w') : StabB T E B w' vf vo u n :=
  fun w'' hs hk => h w'' (Nat.le_trans hb.size hs) (fun b h1 h2 => (hk b h1 (Nat.lt_of_lt_of_le h2 hb.size)).trans (hb.block b h2))

/-- A case with its number. -/
def CasC (T : List (List Ins)) (E : List Evt) (B : Nat) (w : World) (b off : Nat) (n : Nat) : Prop := ∃ vf vo u, w.cell? ⟨b, off, none⟩ = some (.int .i64 n) ∧ w.cell? ⟨b, off + 1, none⟩ = some vf ∧ w.cell? ⟨b, off + 2, none⟩ = some vo ∧ w.cell? ⟨b, off + 3, none⟩ = some u ∧ StabB T E B w vf vo u n
def CasAt (T : List (List Ins)) (E : List Evt) (B : Nat) (w : World) (v : Value) (C : List Nat) : Prop := ∃ ao b off cap, SlAt w 4 (CasC T E B) v C ao b off cap
theorem casC_keeps (T : List (List Ins)) (E : List Evt) (B : Nat) : Keeps (CasC T E B) := fun _ _ _ _ _ hb ⟨vf, vo, u, h1, h2, h3, h4, h5⟩ => ⟨vf, vo, u, keep_cell hb h1, keep_cell hb h2, keep_cell hb h3, keep_cell hb h4, h5.keep hb⟩

/-- What lies about a case stays while nothing but V's own row turns. -/
def StabC (T : List (List Ins)) (E : List Evt) (B : Nat) (w : World) (V vf vo u : Value) (n : Nat) : Prop :=
  ∀ w' : World, w.heap.size ≤ w'.heap.size → (∀ b : Nat, B ≤ b → b < w.heap.size → V.ownBlock ≠ some b → w'.heap[b]? = w.heap[b]?) → ExeAt w' vf vo (exN E n) ∧ IntAt w' u (stX T E (exN E n))

structure CL (T : List (List Ins)) (E : List Evt) (w : World) (base : Nat) (V : Value) (C : List Nat) (vs : List Value) : Prop where
  own : w.ownsRow base 96 4 V C.length vs
  rows : ∀ (j n : Nat), C[j]? = some n → ∃ vf vo u, vs[j * 4]? = some (.int .i64 n) ∧ vs[j * 4 + 1]? = some vf ∧ vs[j * 4 + 2]? = some vo ∧ vs[j * 4 + 3]? = some u ∧ StabC T E base w V vf vo u n

theorem CL.nil (T : List (List Ins)) (E : List Evt) (w : World) (base : Nat) : CL T E w base (.slice none 0 0) [] [] := ⟨World.ownsRow_nil _ _ _ _, fun j x h => by simp at h⟩

theorem CL.keep {T : List (List Ins)} {E : List Evt} {w w' : World} {base : Nat} {V : Value} {C : List Nat} {vs : List Value} (h : CL T E w base V C vs) (hb : Below w.heap.size w w') : CL T E w' base V C vs := by
  refine ⟨own_keep h.own hb, fun j x hx => ?_⟩
  obtain ⟨vf, vo, u, h1, h2, h3, h4, h5⟩ := h.rows j x hx
  exact ⟨vf, vo, u, h1, h2, h3, h4, fun w'' hs hk => h5 w'' (Nat.le_trans hb.size hs) (fun b hb0 hb1 hb2 => (hk b hb0 (Nat.lt_of_lt_of_le hb1 hb.size) hb2).trans (hb.block b hb1))⟩

theorem CL.snoc {T : List (List Ins)} {E : List Evt} {w w2 : World} {base : Nat} {V V' : Value} {C : List Nat} {vs : List Value} (h : CL T E w base V C vs) {n : Nat} {vf vo u : Value} {o : Obj} (hst : StabC T E base w V vf vo u n)
    (hown : w2.ownsRow base 96 4 V' (C.length + 1) (vs ++ [.int .i64 n, vf, vo, u])) (hg : (w.alloc o).grownBy w2 V.ownBlock) (hap : ∀ g, V'.ownBlock = some g → V.ownBlock = some g ∨ w.heap.size + 1 ≤ g) : CL T E w2 base V' (C ++ [n]) (vs ++ [.int .i64 n, vf, vo, u]) := by
  have hsz : w.heap.size + 1 ≤ w2.heap.size := by have := hg.size; simpa using this
  have hstab : ∀ f o u y, StabC T E base w V f o u y → StabC T E base w2 V' f o u y := by
    intro f o u y hy w'' hs hk
    refine hy w'' (by omega) (fun b hb0 hb1 hb2 => ?_)
    have hne : V'.ownBlock ≠ some b := fun e => by
      rcases hap b e with e' | e'
      · exact hb2 e'
      · omega
    rw [hk b hb0 (by omega) hne, hg.block b (by simp; omega) (fun e => hb2 e.symm), Below.heap_alloc _ _ _ hb1]
  have hlen : vs.length = C.length * 4 := h.own.1
  refine ⟨by simpa using hown, fun j y hy => ?_⟩
  by_cases hj : j < C.length
  · rw [List.getElem?_append_left hj] at hy
    obtain ⟨f, o, u', h1, h2, h3, h4, h5⟩ := h.rows j y hy
    refine ⟨f, o, u', ?_, ?_, ?_, ?_, hstab _ _ _ _ h5⟩ <;> rw [List.getElem?_append_left (by omega)] <;> assumption
  · have hjL : j = C.length := by
      have := (List.getElem?_eq_some_iff.1 hy).1
      simp at this; omega
    subst hjL
    rw [List.getElem?_append_right (Nat.le_refl _), Nat.sub_self] at hy
    simp at hy
    subst hy
    refine ⟨vf, vo, u, ?_, ?_, ?_, ?_, hstab _ _ _ _ hst⟩
    · rw [List.getElem?_append_right (by omega), hlen, Nat.sub_self]; rfl
    · rw [List.getElem?_append_right (by omega), hlen, show C.length * 4 + 1 - C.length * 4 = 1 by omega]; rfl
    · rw [List.getElem?_append_right (by omega), hlen, show C.length * 4 + 2 - C.length * 4 = 2 by omega]; rfl
    · rw [List.getElem?_append_right (by omega), hlen, show C.length * 4 + 3 - C.length * 4 = 3 by omega]; rfl

theorem CL.read {T : List (List Ins)} {E : List Evt} {w : World} {base : Nat} {V : Value} {C : List Nat} {vs : List Value} (h : CL T E w base V C vs) {B : Nat} (hB : B ≤ base) : CasAt T E B w V C := by
  rcases h.own.2 with ⟨hv, hn⟩ | ⟨g, cap, cur, hv, hg, hh, _⟩
  · have h0 : C = [] := List.eq_nil_of_length_eq_zero hn
    subst h0
    exact ⟨none, 0, 0, 0, hv, fun h => absurd rfl h, fun _ => ⟨rfl, rfl⟩, fun k x h => by simp at h⟩
  · refine ⟨_, g, 0, cap, hv, fun _ => rfl, fun h => by simp at h, fun k x hk => ?_⟩
    obtain ⟨vf, vo, u, h1, h2, h3, h4, h5⟩ := h.rows k x hk
    have c1 := h.own.cells (g := g) (by rw [hv]; rfl) (k * 4) _ h1
    have c2 := h.own.cells (g := g) (by rw [hv]; rfl) (k * 4 + 1) _ h2
    have c3 := h.own.cells (g := g) (by rw [hv]; rfl) (k * 4 + 2) _ h3
    have c4 := h.own.cells (g := g) (by rw [hv]; rfl) (k * 4 + 3) _ h4
    rw [Addr.add_lit] at c1 c2 c3 c4
    exact ⟨vf, vo, u, c1, by rw [Nat.add_assoc]; exact c2, by rw [Nat.add_assoc]; exact c3, by rw [Nat.add_assoc]; exact c4, fun w' hs hk => h5 w' hs (fun b h1 h2 _ => hk b (by omega) h2)⟩

theorem stab_case {T : List (List Ins)} {E : List Evt} {B : Nat} {w1 w3 w5 w6 : World} {V vf vo u : Value} {n : Nat} (hB : B ≤ w1.heap.size) (hx : ExeN w1.heap.size w3 vf vo (exN E n)) (hu : IntNew w5.heap.size w6 u (stX T E (exN E n))) (h13 : w1.heap.size ≤ w3.heap.size) (h35 : Below w3.heap.size w3 w5) (h36 : Below w3.heap.size w3 w6) (hV : ∀ g, V.ownBlock = some g → g < w1.heap.size) : StabC T E B w6 V vf vo u n := by
  intro w' hs hk
  have h5 := h35.size
  have h6 := h36.size
  refine ⟨hx.other (fun b hb1 hb2 => ?_), hu.at'.other (fun b hb => ?_)⟩
  · rw [hk b (by omega) (by omega) (fun e => by have := hV b e; omega), h36.block b hb2]
  · obtain ⟨q1, q2⟩ := hu.own (stX_ne _ _ _) b hb
    exact hk b (by omega) q2 (fun e => by have := hV b e; omega)

set_option maxRecDepth 20000 in
set_option maxHeartbeats 4000000 in
theorem cases_any (T : List (List Ins)) (c : List Atm) (hz : ((chk T c).1 == 0) = true) (al : Nat → Bool) (hal : Als T (evsT T 0) al) (vt v : Value) (w : World) (ht : ThrAt w vt T) (h : Ev4Cap w v (evsT T 0)) :
    Calls Tryz.prog 85 #[vt, v] w fun e w' => ∃ u, e = .returned u ∧ CasAt T (evsT T 0) w.heap.size w' u (casN al (sizeN (evsT T 0))) ∧ Below w.heap.size w w' := by
  have hF := fits_of hz
  have hM := mts_of hz
  have hN := chk_many_no hz
  have hin := evsIn_T T
  have HCT : Hid (∀ w', Below w.heap.size w w' → Calls Tryz.prog 118 #[v] w' fun e w'' => e = .returned (.int .i64 (sizeN (evsT T 0) : Nat)) ∧ Below w'.heap.size w' w'') := fun w' hb => by
    have := countP_any (evsT T 0) hF.el v w' (h.at'.keep hb)
    rw [cap2_of_le (by omega)] at this
    exact this
  have HNT : Hid (∀ n w', n < sizeN (evsT T 0) → Below w.heap.size w w' → Calls Tryz.prog 119 #[v, .int .i64 n] w' fun e w'' => ∃ vf vo, e = .returned (.tuple #[.agg #[vf, vo], .int .i64 0]) ∧ ExeN w'.heap.size w'' vf vo (exN (evsT T 0) n) ∧ Below w'.heap.size w' w'') := fun n w' hn hb => nth_new (evsT T 0) hF.el v n w' (h.at'.keep hb) hn hN
  obtain ⟨rj, hrj⟩ : ∃ rj : Nat → Int, ∀ n, JudIs (Cyc (evsT T 0).length (cohA (evsT T 0) (exN (evsT T 0) n))) (tornB (evsT T 0) (exN (evsT T 0) n)) (Cyc (evsT T 0).length (kepA T (evsT T 0) (exN (evsT T 0) n))) (¬ Parts (evsT T 0).length (mtL (thoL 2 (evsT T 0) 0) (thoL 3 (evsT T 0) 0) (thoL 4 (evsT T 0) 0)) (kepA T (evsT T 0) (exN (evsT T 0) n))) (rj n) :=
    ⟨fun n => Classical.choose (JudIs.ex _ _ _ _), fun n => Classical.choose_spec (JudIs.ex _ _ _ _)⟩
  have HRZ : Hid (∀ n, n < sizeN (evsT T 0) → (rj n == 0) = al n) := fun n hn => by
    rw [Bool.eq_iff_iff, hal n hn, beq_iff_eq]
    exact (hrj n).zero
  have HJD : Hid (∀ n vf vo w', Below w.heap.size w w' → ExeAt w' vf vo (exN (evsT T 0) n) → Calls Tryz.prog 54 #[vt, v, .agg #[vf, vo]] w' fun e w'' => e = .returned (.int .i64 (rj n)) ∧ Below w'.heap.size w' w'') := fun n vf vo w' hb hx => by
    have hxx := exN_isEx (evsT T 0) n
    have hrk := hxx.ranks hF.el hF.locs
    obtain ⟨j1, j2, j3, j4⟩ := judge_same' (T := T) rfl hF.el hF.locs hxx
    have hfl : (exN (evsT T 0) n).from'.length ≤ 96 := by have h1 := hxx.f; have h2 := rdsX_len (evsT T 0) 0; have h3 := hF.el; omega
    refine (of_any T hF.short vt (evsT T 0) hF.el hin hM (exN (evsT T 0) n) hfl (by have := hxx.o3; omega) (hxx.xok hF.el hF.locs).l96 hrk.bound v _ _ w' (ht.keep hb) (h.keep hb) hx).mono ?_
    rintro e w'' ⟨r, he, hj, hb'⟩
    exact ⟨by rw [he, (hj.congr' j1 j2 j3 j4).one (hrj n)], hb'⟩
  have HST : Hid (∀ n vf vo w', n < sizeN (evsT T 0) → al n = true → Below w.heap.size w w' → ExeAt w' vf vo (exN (evsT T 0) n) → Calls Tryz.prog 40 #[vt, v, .agg #[vf, vo]] w' fun e w'' => ∃ u, e = .returned u ∧ IntNew w'.heap.size w'' u (stX T (evsT T 0) (exN (evsT T 0) n)) ∧ Below w'.heap.size w' w'') := fun n vf vo w' hn ha hb hx => by
    have hxx := exN_isEx (evsT T 0) n
    refine (stateOf_any T hF.short vt (evsT T 0) hF.el hin _ hxx v vf vo w' (ht.keep hb) (h.at'.keep hb) hx).mono ?_
    rintro e w'' ⟨u, he, hu, hb'⟩
    rw [sta_same rfl hF.el hF.locs hxx (alw_cyc ((hal n hn).1 ha))] at hu
    exact ⟨u, he, hu, hb'⟩
  have HCY : Hid (∀ k, al k = true → casN al (k + 1) = casN al k ++ [k]) := fun k hk => casN_yes hk
  have HCN : Hid (∀ k, al k = false → casN al (k + 1) = casN al k) := fun k hk => casN_no hk
  have HCL : Hid (∀ k, (casN al k).length ≤ k) := fun k => casN_len al k
  have HC0 : Hid (casN al 0 = []) := rfl
  obtain ⟨_, aoT, bT, offT, capT, hvT, _⟩ := ht
  obtain ⟨ao, b, off, cap, ⟨hv, _, _, _⟩, _⟩ := h
  subst hv hvT
  clear hrj hal hz hM hin hF
  generalize evsT T 0 = E at *
  generalize casN al = CN at *
  generalize sizeN E = N at *
  obtain ⟨i1, hi, hz0, hz1, hz2⟩ := info_parts Tryz.infoCase
  have HI : Hid (Tryz.prog.info? 96 = some i1 ∧ i1.zero = some (.agg #[.int .i64 0, .slice none 0 0, .slice none 0 0, .slice none 0 0]) ∧ i1.size = 4 ∧ i1.bytes = 80) := ⟨hi, hz0, hz1, hz2⟩
  clear hi hz0 hz1 hz2
  go_enter Tryz.func85, Tryz.ntmps85
  go_wp2_with fail
  refine (HCT.out w (Below.refl _ _)).mono ?_
  rintro e w2 ⟨rfl, hb2⟩
  clear HCT
  go_wp2_with fail
  go_loopw [5, 7] (fun u i wr => ∃ (k : Nat) (vs : List Value), k ≤ N ∧ i = .int .i64 k ∧ Hid (CL T E wr w2.heap.size u (CN k) vs) ∧ Below w2.heap.size w2 wr) (fun _ i _ => N - (intOf i).toNat)
  case atStart => exact ⟨0, [], Nat.zero_le _, rfl, by show CL _ _ _ _ _ _ _; rw [HC0.out]; exact CL.nil _ _ _ _, Below.refl _ _⟩
  case round =>
    clear HC0
    obtain ⟨k, vs, hk, rfl, hCL, hb⟩ := hrel
    have hbw := below_more hb2 hb
    by_cases hlt : k < N
    · have hkI : (k : Int) < (N : Int) := by omega
      have hrz := HRZ.out k hlt
      have hcl := HCL.out k
      go_wp2_with fail
      refine (HNT.out k wr hlt hbw).mono ?_
      rintro e w3 ⟨vf, vo, rfl, hxn, hb3⟩
      obtain ⟨aof, capf, hff⟩ := hxn.at'.f.form
      obtain ⟨aoo, bo, offo, capo, hso⟩ := hxn.at'.o
      have hfo := hso.hv
      clear hso
      subst hff hfo
      generalize hlf : (exN E k).from'.length = lf at *
      generalize hlo : (exN E k).order.length = lo at *
      clear hlf hlo
      have HXN : Hid (ExeN wr.heap.size w3 (.slice aof lf capf) (.slice aoo lo capo) (exN E k)) := hxn
      have hbw3 := below_more hbw hb3
      have hba3 := below_alloc w3 (.cells #[.slice aof lf capf, .slice aoo lo capo] 29)
      have hbw4 := below_more hbw3 hba3
      have hJ1 := HJD.out k _ _ _ hbw4 (hxn.at'.keep hba3)
      have HJ1 : Hid (Calls Tryz.prog 54 #[.slice aoT T.length capT, .slice ao E.length cap, .agg #[.slice aof lf capf, .slice aoo lo capo]] (w3.alloc (.cells #[.slice aof lf capf, .slice aoo lo capo] 29)) fun e w'' => e = .returned (.int .i64 (rj k)) ∧ Below (w3.alloc (.cells #[.slice aof lf capf, .slice aoo lo capo] 29)).heap.size (w3.alloc (.cells #[.slice aof lf capf, .slice aoo lo capo] 29)) w'') := hJ1
      have HS1 : Hid (∀ w', al k = true → Below w3.heap.size w3 w' → Calls Tryz.prog 40 #[.slice aoT T.length capT, .slice ao E.length cap, .agg #[.slice aof lf capf, .slice aoo lo capo]] w' fun e w'' => ∃ u, e = .returned u ∧ IntNew w'.heap.size w'' u (stX T E (exN E k)) ∧ Below w'.heap.size w' w'') := fun w' ha hb' => HST.out k _ _ w' hlt ha (below_more hbw3 hb') (HXN.out.at'.keep hb')
      generalize rj k = r at HJ1 hrz
      clear hxn hJ1
      go_wp2_with fail
      refine HJ1.out.mono ?_
      rintro e w5 ⟨rfl, hb45⟩
      have hb35 := below_more hba3 hb45
      have x0 := keep_cell hb45 (b := w3.heap.size) (off := 0) (u := .slice aof lf capf) (by simp)
      have x1 := keep_cell hb45 (b := w3.heap.size) (off := 1) (u := .slice aoo lo capo) (by simp)
      have hb15 := below_more hb3 hb35
      clear HJ1 hb45
      cases hr : r == 0
      · have hak : al k = false := by rw [← hrz]; exact hr
        have HC5 : Hid (CL T E w5 w2.heap.size u5 (CN (k + 1)) vs) := by rw [HCN.out k hak]; exact hCL.out.keep hb15
        have hb25 := below_more hb hb15
        clear hCL x0 x1
        go_wp2_with fail
        go_roundw
        case measure => simp [intOf]; omega
        case rel => exact ⟨k + 1, vs, by omega, by go_num, HC5.out, hb25⟩
      · have hak : al k = true := by rw [← hrz]; exact hr
        go_wp2_with fail
        refine (HS1.out w5 hak hb35).mono ?_
        rintro e w6 ⟨u6, rfl, hu6, hb6⟩
        have hb36 := below_more hb35 hb6
        have hb16 := below_more hb15 hb6
        have hVl := hCL.out.own.lt
        have HSB : Hid (StabC T E w2.heap.size w6 u5 (.slice aof lf capf) (.slice aoo lo capo) u6 k) := stab_case hb.size HXN.out hu6 hb3.size hb35 hb36 (fun g hg => (hVl g hg).2)
        have HC6 : Hid (CL T E w6 w2.heap.size u5 (CN k) vs) := hCL.out.keep hb16
        have HO6 : Hid (w6.ownsRow w2.heap.size 96 4 u5 (CN k).length vs) := HC6.out.own
        obtain ⟨ao6, cap6, hf6⟩ := hu6.at'.form
        have hb26 := below_more hb hb16
        have hs6 := hb26.size
        replace x0 := keep_cell hb6 x0
        replace x1 := keep_cell hb6 x1
        clear hu6 hVl
        subst hf6
        generalize (stX T E (exN E k)).length = l6 at *
        generalize hcl2 : (CN k).length = lc at *
        go_wp2_with (at_builtin; refine append_new _ rfl _ _ 126 rfl w2.heap.size 96 i1 (.agg #[.int .i64 0, .slice none 0 0, .slice none 0 0, .slice none 0 0]) 4 80 Tryz.underlying126 HI.out.1 HI.out.2.1 HI.out.2.2.1 HI.out.2.2.2 rfl (by decide) u5 lc vs rfl (HO6.out.alloc _) (some ⟨w6.heap.size, 0, none⟩) 1 1 [.int .i64 k, .slice aof lf capf, .slice aoo lo capo, .slice ao6 l6 cap6] rfl (fun h => by cases h) rfl (fun ad had => by cases had; exact new_many rfl) (by simp [Value.oneCell']) (by unfold maxLen; omega) (by omega) (by simp; omega) ?_)
        intro V8 w8 hown8 hgrow8 hap8
        have HC8 : Hid (CL T E w8 w2.heap.size V8 (CN (k + 1)) (vs ++ [.int .i64 k, .slice aof lf capf, .slice aoo lo capo, .slice ao6 l6 cap6])) := by
          rw [HCY.out k hak]
          exact HC6.out.snoc HSB.out (by rw [hcl2]; exact hown8) hgrow8 (by simpa using hap8)
        have HB8 : Hid (Below w2.heap.size w2 w8) := Below.grown (hb26.alloc hs6 _) hgrow8 (by simp; omega) (fun kk e => (HO6.out.lt kk e).1)
        clear hown8 hgrow8 hap8
        go_wp2_with fail
        go_roundw
        case measure => simp [intOf]; omega
        case rel => exact ⟨k + 1, _, by omega, by go_num, HC8.out, HB8.out⟩
    · have hkN : k = N := by omega
      have HOK : Hid (CasAt T E w.heap.size wr u5 (CN N)) := by have := hCL.out.read hb2.size; rw [hkN] at this; exact this
      have hkI : (N : Int) ≤ (k : Int) := by omega
      clear hkN hCL
      go_wp2_with fail
      go_ret
      exact ⟨_, rfl, HOK.out, hbw⟩

end Go.Proofs.YtomijmikkbhgmaaGreat

namespace Go.Proofs.YtomijmikkbhgmaaGreat
open Go.RowKit

theorem own_some {w : World} {base size n : Nat} {e : TypeId} {v : Value} {xs : List Value} (h : w.ownsRow base e size v n xs) (hn : 0 < n) : ∃ g cap, v = .slice (some ⟨g, 0, none⟩) n cap := by
  rcases h.2 with ⟨_, h0⟩ | ⟨g, cap, _, hv, _⟩
  · omega
  · exact ⟨g, cap, hv⟩

theorem outV_set (A : List (Value × (List Int × Nat))) (i : Nat) (q : Value × (List Int × Nat)) (hi : i < A.length) : ((A.flatMap outV).set (i * 2) q.1).set (i * 2 + 1) (.int .i64 q.2.2) = (A.set i q).flatMap outV := by
  induction A generalizing i with
  | nil => simp at hi
  | cons a A ih =>
    cases i with
    | zero => simp [outV]
    | succ i =>
      have := ih i (by simpa using hi)
      rw [List.set_cons_succ, List.flatMap_cons, List.flatMap_cons, ← this, show (i + 1) * 2 = i * 2 + 2 by omega]
      simp [outV]
theorem outV_set1 (A : List (Value × (List Int × Nat))) (i : Nat) (q : Value × (List Int × Nat)) (n : Nat) (hq : A[i]? = some q) : (A.flatMap outV).set (i * 2 + 1) (.int .i64 n) = (A.set i (q.1, (q.2.1, n))).flatMap outV := by
  induction A generalizing i with
  | nil => simp at hq
  | cons a A ih =>
    cases i with
    | zero => simp at hq; subst hq; simp [outV]
    | succ i =>
      have := ih i (by simpa using hq)
      rw [List.set_cons_succ, List.flatMap_cons, List.flatMap_cons, ← this, show (i + 1) * 2 = i * 2 + 2 by omega]
      simp [outV]

theorem OutOwn.cells {w0 wr : World} {g n cap : Nat} {A : List (Value × (List Int × Nat))} (h : OutOwn w0 wr (.slice (some ⟨g, 0, none⟩) n cap) A) {i : Nat} {q : Value × (List Int × Nat)} (hq : A[i]? = some q) : wr.cell? ⟨g, i * 2, none⟩ = some q.1 ∧ wr.cell? ⟨g, i * 2 + 1, none⟩ = some (.int .i64 q.2.2) := by
  have c1 := h.own.cells (g := g) rfl (i * 2 + 0) q.1 (by rw [flat_get outV 2 outV_len A i 0 q hq (by omega)]; rfl)
  have c2 := h.own.cells (g := g) rfl (i * 2 + 1) (.int .i64 q.2.2) (by rw [flat_get outV 2 outV_len A i 1 q hq (by omega)]; rfl)
  rw [Addr.add_lit, Nat.zero_add] at c1 c2
  exact ⟨c1, c2⟩

theorem OutOwn.set {w0 wr : World} {g n cap : Nat} {A : List (Value × (List Int × Nat))} (h : OutOwn w0 wr (.slice (some ⟨g, 0, none⟩) n cap) A) (hn : A.length = n) {i : Nat} (hi : i < A.length) (q : Value × (List Int × Nat)) (hq : IntAt w0 q.1 q.2.1) : OutOwn w0 ((wr.setCell ⟨g, i * 2, none⟩ q.1).setCell ⟨g, i * 2 + 1, none⟩ (.int .i64 q.2.2)) (.slice (some ⟨g, 0, none⟩) n cap) (A.set i q) := by
  have h1 := h.own
  rw [hn] at h1
  have h2 := (h1.stored (i * 2) q.1).1
  have h3 := (h2.stored (i * 2 + 1) (.int .i64 q.2.2)).1
  rw [outV_set A i q hi] at h3
  refine ⟨by rw [List.length_set, hn]; exact h3, fun p hp => ?_⟩
  rcases List.mem_or_eq_of_mem_set hp with hp | hp
  · exact h.st p hp
  · rw [hp]; exact hq
theorem OutOwn.bump {w0 wr : World} {g n cap : Nat} {A : List (Value × (List Int × Nat))} (h : OutOwn w0 wr (.slice (some ⟨g, 0, none⟩) n cap) A) (hn : A.length = n) {i : Nat} {q : Value × (List Int × Nat)} (hq : A[i]? = some q) (m : Nat) : OutOwn w0 (wr.setCell ⟨g, i * 2 + 1, none⟩ (.int .i64 m)) (.slice (some ⟨g, 0, none⟩) n cap) (A.set i (q.1, (q.2.1, m))) := by
  have h1 := h.own
  rw [hn] at h1
  have h3 := (h1.stored (i * 2 + 1) (.int .i64 m)).1
  rw [outV_set1 A i q m hq] at h3
  refine ⟨by rw [List.length_set, hn]; exact h3, fun p hp => ?_⟩
  rcases List.mem_or_eq_of_mem_set hp with hp | hp
  · exact h.st p hp
  · rw [hp]; exact h.st q (List.mem_of_getElem? hq)
theorem OutOwn.keep {w0 wr w' : World} {V : Value} {A : List (Value × (List Int × Nat))} (h : OutOwn w0 wr V A) (hb : Below wr.heap.size wr w') : OutOwn w0 w' V A := ⟨own_keep h.own hb, h.st⟩

/-- A list of outcomes while what stands behind a place is shifted. -/
def shf {α : Type} (K : List α) (z : α) (i : Nat) : List α := (K ++ [z]).take (i + 1) ++ K.drop i
theorem shf_start {α : Type} (K : List α) (z : α) : shf K z K.length = K ++ [z] := by
  unfold shf
  rw [List.take_of_length_le (by simp), List.drop_length, List.append_nil]
theorem shf_len {α : Type} (K : List α) (z : α) {i : Nat} (hi : i ≤ K.length) : (shf K z i).length = K.length + 1 := by
  unfold shf
  rw [List.length_append, List.length_take, List.length_drop, List.length_append]
  simp; omega
theorem shf_get {α : Type} {K : List α} {z : α} {i : Nat} (hi : i < K.length) : (shf K z (i + 1))[i]? = K[i]? := by
  unfold shf
  rw [List.getElem?_append_left (by rw [List.length_take, List.length_append]; simp; omega), List.getElem?_take_of_lt (by omega), List.getElem?_append_left hi]
theorem shf_step {α : Type} {K : List α} {z : α} {i : Nat} {q : α} (hq : K[i]? = some q) : (shf K z (i + 1)).set (i + 1) q = shf K z i := by
  have hi : i < K.length := (List.getElem?_eq_some_iff.1 hq).1
  apply List.ext_getElem?
  intro j
  rw [List.getElem?_set]
  have hl := shf_len K z (i := i + 1) (by omega)
  have hl2 := shf_len K z (i := i) (by omega)
  have get : ∀ (i j : Nat), i ≤ K.length → (shf K z i)[j]? = if j ≤ i then (K ++ [z])[j]? else K[j - 1]? := by
    intro i j hi
    unfold shf
    by_cases h : j ≤ i
    · rw [if_pos h, List.getElem?_append_left (by rw [List.length_take, List.length_append]; simp; omega), List.getElem?_take_of_lt (by omega)]
    · rw [if_neg h, List.getElem?_append_right (by rw [List.length_take, List.length_append]; simp; omega), List.getElem?_drop, List.length_take, List.length_append]
      congr 1
      simp; omega
  rw [get (i + 1) j (by omega), get i j (by omega)]
  by_cases h : i + 1 = j
  · subst h
    rw [if_pos rfl, if_pos (by rw [hl]; omega), if_neg (by omega), Nat.add_sub_cancel, hq]
  · rw [if_neg h]
    by_cases h2 : j ≤ i
    · rw [if_pos (by omega), if_pos h2]
    · rw [if_neg (by omega), if_neg h2]
theorem shf_done {α : Type} (K : List α) (z q : α) {i : Nat} (hi : i ≤ K.length) : (shf K z i).set i q = K.take i ++ q :: K.drop i := by
  unfold shf
  rw [List.set_append_left _ _ (by rw [List.length_take, List.length_append]; simp; omega), List.take_add_one]
  have h1 : (K ++ [z]).take i = K.take i := List.take_append_of_le_length hi
  have h2 : (K.take i).length = i := by rw [List.length_take]; omega
  obtain ⟨y, hy⟩ : ∃ y, (K ++ [z])[i]? = some y := ⟨_, List.getElem?_eq_getElem (by simp; omega)⟩
  rw [h1, hy, List.set_append_right _ _ (by omega), h2, Nat.sub_self]
  simp

theorem outK_snoc (L : List (List Int)) (s : List Int) : outK (L ++ [s]) = insO (outK L) s := by unfold outK; rw [List.foldl_append]; rfl

theorem insO_new {K : List (List Int × Nat)} (hs : SrtK K) {s : List Int} (h : ∀ p, K[posK K s]? = some p → ltL s p.1 = true) : insO K s = K.take (posK K s) ++ (s, 1) :: K.drop (posK K s) := by
  have hsp := insO_split (K.take (posK K s)) (K.drop (posK K s)) s (fun p hp => by
    obtain ⟨k, hk⟩ := List.mem_iff_getElem?.1 hp
    have hkl : k < posK K s := by have := (List.getElem?_eq_some_iff.1 hk).1; rw [List.length_take] at this; omega
    rw [List.getElem?_take_of_lt hkl] at hk
    exact posK_low hkl hk) (fun p hp => by
    rw [List.head?_drop] at hp
    exact posK_high hs (Nat.le_refl _) hp)
  rw [List.take_append_drop] at hsp
  rw [hsp]
  congr 1
  cases hd : K.drop (posK K s) with
  | nil => rfl
  | cons p B =>
    have hp : K[posK K s]? = some p := by rw [← List.head?_drop, hd]; rfl
    rw [tailO, if_pos (h p hp)]
theorem insO_old {K : List (List Int × Nat)} (hs : SrtK K) {s : List Int} {p : List Int × Nat} (hp : K[posK K s]? = some p) (h : ltL s p.1 = false) : insO K s = K.set (posK K s) (p.1, p.2 + 1) := by
  have hsp := insO_split (K.take (posK K s)) (K.drop (posK K s)) s (fun p hp => by
    obtain ⟨k, hk⟩ := List.mem_iff_getElem?.1 hp
    have hkl : k < posK K s := by have := (List.getElem?_eq_some_iff.1 hk).1; rw [List.length_take] at this; omega
    rw [List.getElem?_take_of_lt hkl] at hk
    exact posK_low hkl hk) (fun p hp => by
    rw [List.head?_drop] at hp
    exact posK_high hs (Nat.le_refl _) hp)
  rw [List.take_append_drop] at hsp
  have hlt : posK K s < K.length := (List.getElem?_eq_some_iff.1 hp).1
  rw [hsp, drop_cons hp, tailO, h, if_neg (by simp), List.set_eq_take_append_cons_drop, if_pos hlt]

end Go.Proofs.YtomijmikkbhgmaaGreat
