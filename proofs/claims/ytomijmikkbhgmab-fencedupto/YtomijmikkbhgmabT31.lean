import Derived.Test.YtomijmikkbhgmabT30
namespace Go.Proofs.Ytomijmikkbhgmab

/-- An event of a thread, by its number among the thread's own. -/
def At (T : List (List Ins)) (e i r : Nat) (l : List Ins) (y : Evt) : Prop := T[i]? = some l ∧ (evsI i l 0)[r]? = some y ∧ e = offT T i + r

theorem At.ev {T : List (List Ins)} {e i r : Nat} {l : List Ins} {y : Evt} (h : At T e i r l y) : (evsT T 0)[e]? = some y := by
  obtain ⟨h1, h2, rfl⟩ := h
  exact ev_at h1 h2
theorem At.th {T : List (List Ins)} {e i r : Nat} {l : List Ins} {y : Evt} (h : At T e i r l y) : y.thread = (i : Int) := evsI_thread (List.mem_of_getElem? h.2.1)
theorem at_of {T : List (List Ins)} {e : Nat} {y : Evt} (h : (evsT T 0)[e]? = some y) : ∃ i r l, At T e i r l y := by
  obtain ⟨a, l, r, h1, h2, h3, _⟩ := ev_find h
  exact ⟨a, r, l, h1, h2, h3⟩
theorem At.one {T : List (List Ins)} {e i r i' r' : Nat} {l l' : List Ins} {y y' : Evt} (h : At T e i r l y) (h' : At T e i' r' l' y') : i = i' ∧ r = r' ∧ l = l' ∧ y = y' := by
  have e1 := h.ev
  rw [h'.ev] at e1
  cases e1
  have ht := h.th
  rw [h'.th] at ht
  have : i' = i := by omega
  subst this
  obtain ⟨a1, _, a3⟩ := h
  obtain ⟨b1, _, b3⟩ := h'
  rw [a1] at b1
  cases b1
  exact ⟨rfl, by omega, rfl, rfl⟩

structure RunOk (T : List (List Ins)) (R : List Nat) (M : Mo) : Prop where
  pcs : Pcs T M
  mem : ∀ (e i r : Nat) (l : List Ins) (y : Evt), At T e i r l y → (e ∈ R ↔ r < evc l (M.pc i))
  lt : ∀ e ∈ R, e < (evsT T 0).length
  nd : R.Nodup
  thr : R.Pairwise fun a b => ∀ ya yb, (evsT T 0)[a]? = some ya → (evsT T 0)[b]? = some yb → ya.thread = yb.thread → a < b
  swp : ∀ (r : Nat) (y : Evt), r ∈ R → (evsT T 0)[r]? = some y → y.kind = 0 → y.ins.op = 3 → ∃ A B, R = A ++ r :: (r + 1) :: B

theorem runOk_start (T : List (List Ins)) : RunOk T [] moZ := by
  refine ⟨⟨fun i l _ => Nat.zero_le _, fun i l _ h => ?_⟩, fun e i r l y h => ?_, fun e he => (by cases he), List.nodup_nil, List.Pairwise.nil, fun r y hr => (by cases hr)⟩
  · have : (0 : Nat) % 2 = 1 := h
    omega
  · constructor
    · intro h; cases h
    · intro h
      have : r < evc l 0 := h
      simp [evc, evsI] at this

/-- The events that a step adds. -/
theorem step_new {T : List (List Ins)} {M M' : Mo} {i : Nat} {l : List Ins} {x : Ins} (h : Pcs T M) (hl : T[i]? = some l) (hx : l[M.pc i / 2]? = some x) (hk : StepK T M i l x M') {r : Nat} (h1 : evc l (M.pc i) ≤ r) (h2 : r < evc l (M'.pc i)) : ∃ y, (evsI i l 0)[r]? = some y ∧ y.ins = x ∧ y.loc = x.loc ∧ (kindsOf x.op)[r - (evsI 0 (l.take (M.pc i / 2)) 0).length]? = some y.kind := by
  obtain ⟨_, e2, e3⟩ := step_evc h hl hx hk
  have hlen : r - (evsI 0 (l.take (M.pc i / 2)) 0).length < (kindsOf x.op).length := by
    by_cases h7 : x.op = 7
    · rw [if_pos h7] at e2
      rw [h7]
      show _ < 2
      unfold evc at h1 h2 e2
      omega
    · rw [if_neg h7] at e2
      have := e3 h7
      unfold evc at h1 h2 e2
      omega
  obtain ⟨kd, hkd⟩ := get_of_lt hlen
  have := ev_ins (i := i) hx hkd
  have hr : (evsI 0 (l.take (M.pc i / 2)) 0).length + (r - (evsI 0 (l.take (M.pc i / 2)) 0).length) = r := by unfold evc at h1; omega
  rw [hr] at this
  exact ⟨_, this, rfl, rfl, hkd⟩

theorem runOk_step {T : List (List Ins)} {R : List Nat} {M M' : Mo} {i : Nat} {l : List Ins} {x : Ins} (h : RunOk T R M) (hl : T[i]? = some l) (hx : l[M.pc i / 2]? = some x) (hk : StepK T M i l x M') : RunOk T (R ++ List.range' (offT T i + evc l (M.pc i)) (evc l (M'.pc i) - evc l (M.pc i))) M' := by
  obtain ⟨e1, e2, e3⟩ := step_evc h.pcs hl hx hk
  have hle : evc l (M.pc i) ≤ evc l (M'.pc i) := by rw [e2]; omega
  have hnew : ∀ e, e ∈ List.range' (offT T i + evc l (M.pc i)) (evc l (M'.pc i) - evc l (M.pc i)) ↔ ∃ r, e = offT T i + r ∧ evc l (M.pc i) ≤ r ∧ r < evc l (M'.pc i) := fun e => by
    rw [List.mem_range'_1]
    constructor
    · intro hh; exact ⟨e - offT T i, by omega, by omega, by omega⟩
    · rintro ⟨r, rfl, h1, h2⟩; omega
  have hat : ∀ r, evc l (M.pc i) ≤ r → r < evc l (M'.pc i) → ∃ y, At T (offT T i + r) i r l y ∧ y.ins = x ∧ (kindsOf x.op)[r - (evsI 0 (l.take (M.pc i / 2)) 0).length]? = some y.kind := fun r h1 h2 => by
    obtain ⟨y, q1, q2, _, q3⟩ := step_new h.pcs hl hx hk h1 h2
    exact ⟨y, ⟨hl, q1, rfl⟩, q2, q3⟩
  have hold : ∀ e ∈ R, ∀ r, evc l (M.pc i) ≤ r → r < evc l (M'.pc i) → e ≠ offT T i + r := fun e he r h1 h2 q => by
    obtain ⟨y, hy, _⟩ := hat r h1 h2
    rw [q] at he
    have := (h.mem _ _ _ _ _ hy).1 he
    omega
  refine ⟨h.pcs.step hl hx hk, fun e j r lj y ha => ?_, fun e he => ?_, ?_, ?_, fun r y hr hy hkd hop => ?_⟩
  · rw [List.mem_append, h.mem e j r lj y ha, hnew, e1]
    by_cases hji : j = i
    · subst hji
      obtain ⟨a1, a2, a3⟩ := ha
      rw [hl] at a1
      cases a1
      rw [upd_self]
      constructor
      · rintro (q | ⟨r', q1, _, q3⟩)
        · omega
        · have : r' = r := by omega
          omega
      · intro q
        by_cases hc : r < evc l (M.pc j)
        · exact .inl hc
        · exact .inr ⟨r, a3, by omega, q⟩
    · rw [upd_ne _ _ hji]
      constructor
      · rintro (q | ⟨r', q1, q2, q3⟩)
        · exact q
        · exfalso
          rw [upd_self] at q3
          obtain ⟨y', hy', _⟩ := hat r' q2 q3
          rw [← q1] at hy'
          exact hji (ha.one hy').1
      · exact fun q => .inl q
  · rcases List.mem_append.1 he with q | q
    · exact h.lt e q
    · obtain ⟨r, rfl, q2, q3⟩ := (hnew e).1 q
      obtain ⟨y, hy, _⟩ := hat r q2 q3
      exact (List.getElem?_eq_some_iff.1 hy.ev).1
  · refine List.nodup_append.2 ⟨h.nd, List.nodup_range', fun a ha b hb => ?_⟩
    obtain ⟨r, rfl, q2, q3⟩ := (hnew b).1 hb
    exact hold a ha r q2 q3
  · refine List.pairwise_append.2 ⟨h.thr, ?_, fun a ha b hb ya yb hya hyb ht => ?_⟩
    · exact (List.pairwise_lt_range').imp fun hab _ _ _ _ _ => hab
    · obtain ⟨r, rfl, q2, q3⟩ := (hnew b).1 hb
      obtain ⟨y, hy, _⟩ := hat r q2 q3
      obtain ⟨j, r', l', hj⟩ := at_of hya
      have e5 := hy.ev
      rw [hyb] at e5
      cases e5
      have : j = i := by rw [hj.th, hy.th] at ht; omega
      subst this
      have hl' : l' = l := by have := hj.1; rw [hl] at this; exact (Option.some.inj this).symm
      subst hl'
      have := (h.mem _ _ _ _ _ hj).1 ha
      have := hj.2.2
      omega
  · rcases List.mem_append.1 hr with q | q
    · obtain ⟨A, B, rfl⟩ := h.swp r y q hy hkd hop
      exact ⟨A, B ++ List.range' (offT T i + evc l (M.pc i)) (evc l (M'.pc i) - evc l (M.pc i)), by simp⟩
    · obtain ⟨r', rfl, q2, q3⟩ := (hnew r).1 q
      obtain ⟨y', hy', hins, hkk⟩ := hat r' q2 q3
      have e5 := hy'.ev
      rw [hy] at e5
      cases e5
      have hop' : x.op = 3 := by rw [← hins]; exact hop
      have h7 : x.op ≠ 7 := by omega
      have hq := e3 h7
      rw [if_neg h7, hop'] at e2
      have e2' : evc l (M'.pc i) = evc l (M.pc i) + 2 := e2
      have hev : evc l (M.pc i) = (evsI 0 (l.take (M.pc i / 2)) 0).length := by unfold evc; omega
      rw [hop', hkd] at hkk
      have hr0 : r' = evc l (M.pc i) := by
        have hc : r' = evc l (M.pc i) ∨ r' = evc l (M.pc i) + 1 := by omega
        rcases hc with hc | hc
        · exact hc
        · exfalso
          rw [hc, hev, Nat.add_sub_cancel_left] at hkk
          have : (kindsOf 3)[1]? = some 1 := rfl
          rw [this] at hkk
          cases hkk
      refine ⟨R, [], ?_⟩
      rw [e2', Nat.add_sub_cancel_left, hr0]
      rfl

theorem run_ok {T : List (List Ins)} {R : List Nat} {M : Mo} (h : Run T R M) : RunOk T R M := by
  induction h with
  | start => exact runOk_start T
  | step R M M' i l _ hl hs ih =>
    obtain ⟨x, hx, hk⟩ := step_kind hl hs
    exact runOk_step ih hl hx hk

/-- A run that is done: all events, in a row. -/
theorem run_row {T : List (List Ins)} {R : List Nat} {M : Mo} (h : RunOk T R M) (hd : ∀ i l, T[i]? = some l → M.pc i = 2 * l.length) : RowOk (evsT T 0) R R.idxOf ∧ (∀ (a b : Nat) (ya yb : Evt), (evsT T 0)[a]? = some ya → (evsT T 0)[b]? = some yb → ya.thread = yb.thread → a < b → R.idxOf a < R.idxOf b) ∧ ∀ (r : Nat) (y : Evt), (evsT T 0)[r]? = some y → y.kind = 0 → y.ins.op = 3 → R.idxOf (r + 1) = R.idxOf r + 1 := by
  have hall : ∀ e, e < (evsT T 0).length → e ∈ R := fun e he => by
    obtain ⟨y, hy⟩ := get_of_lt he
    obtain ⟨i, r, l, ha⟩ := at_of hy
    refine (h.mem e i r l y ha).2 ?_
    rw [hd i l ha.1]
    unfold evc
    rw [show 2 * l.length / 2 = l.length by omega, show 2 * l.length % 2 = 0 by omega, List.take_length, evsI_len0 0 i l 0 0]
    exact (List.getElem?_eq_some_iff.1 ha.2.1).1
  have hidx : ∀ a, a ∈ R → R[R.idxOf a]? = some a := fun a ha => by
    rw [List.getElem?_eq_getElem (List.idxOf_lt_length_of_mem ha), List.getElem_idxOf]
  have hinv : ∀ i a, R[i]? = some a → R.idxOf a = i := fun i a hi => by
    obtain ⟨hlt, e⟩ := List.getElem?_eq_some_iff.1 hi
    have hm := List.mem_of_getElem? hi
    have h1 := hidx a hm
    obtain ⟨hlt2, e2⟩ := List.getElem?_eq_some_iff.1 h1
    exact (List.getElem_inj h.nd).1 (e2.trans e.symm)
  refine ⟨⟨fun a ha => hidx a (hall a ha), fun i a hi => ⟨h.lt a (List.mem_of_getElem? hi), hinv i a hi⟩⟩, fun a b ya yb hya hyb ht hab => ?_, fun r y hy hk hop => ?_⟩
  · have ha := hall a (List.getElem?_eq_some_iff.1 hya).1
    have hb := hall b (List.getElem?_eq_some_iff.1 hyb).1
    obtain ⟨la, ea⟩ := List.getElem?_eq_some_iff.1 (hidx a ha)
    obtain ⟨lb, eb⟩ := List.getElem?_eq_some_iff.1 (hidx b hb)
    rcases Nat.lt_trichotomy (R.idxOf a) (R.idxOf b) with q | q | q
    · exact q
    · exfalso
      have : a = b := by rw [← ea, ← eb]; simp [q]
      omega
    · exfalso
      have := List.pairwise_iff_getElem.1 h.thr _ _ lb la q yb ya (by rw [eb]; exact hyb) (by rw [ea]; exact hya) ht.symm
      rw [eb, ea] at this
      omega
  · obtain ⟨A, B, hR⟩ := h.swp r y (hall r (List.getElem?_eq_some_iff.1 hy).1) hy hk hop
    have h1 := hinv A.length r (by rw [hR]; simp)
    have h2 := hinv (A.length + 1) (r + 1) (by rw [hR, List.getElem?_append_right (by omega)]; simp)
    omega

end Go.Proofs.Ytomijmikkbhgmab

namespace Go.Proofs.Ytomijmikkbhgmab

def piI (T T' : List (List Ins)) (σ : Nat → Nat) (f : Int) : Int := if f < 0 then f else ((piE T T' σ f.toNat : Nat) : Int)
theorem piI_nat (T T' : List (List Ins)) (σ : Nat → Nat) (a : Nat) : piI T T' σ (a : Int) = ((piE T T' σ a : Nat) : Int) := by
  unfold piI
  rw [if_neg (by omega), Int.toNat_natCast]
theorem piI_neg (T T' : List (List Ins)) (σ : Nat → Nat) : piI T T' σ (-1) = -1 := by
  unfold piI
  rw [if_pos (by omega)]

def phiX (T T' : List (List Ins)) (σ : Nat → Nat) (k m : Int) (x : Exe) : Exe :=
  ⟨(rdsX (evsT T' 0) 0).map fun p => piI T T' σ (srcS (evsT T 0) x (piE T' T σ p.1)), (List.range 3).map fun l : Nat => (ordAt x (lamL k m (l : Int))).map (piI T T' σ)⟩

theorem ev_loc {T : List (List Ins)} {e : Nat} {y : Evt} (h : (evsT T 0)[e]? = some y) (hk : y.kind = 0 ∨ y.kind = 1) (k m : Int) (a : Nat) : (trE k m a y).loc = lamL k m y.loc := by
  obtain ⟨_, _, _, _, _, _, _, _, h1, h2⟩ := evsT_mem (List.mem_of_getElem? h)
  have hop : 0 ≤ y.ins.op ∧ y.ins.op ≤ 3 := by
    unfold kindsOf at h2
    by_cases c0 : y.ins.op = 0
    · omega
    · by_cases c1 : y.ins.op = 1
      · omega
      · by_cases c2 : y.ins.op = 2
        · omega
        · by_cases c3 : y.ins.op = 3
          · omega
          · simp only [c0, c1, c2, c3, beq_iff_eq, Bool.or_eq_true, or_self, if_false] at h2
            repeat' split at h2
            all_goals simp at h2
            all_goals omega
  show (swI k m y.ins).loc = _
  rw [swI_loc hop, h1]

theorem lamL_ok {k m l : Int} (hk : locB k = true) (hm : locB m = true) (hl : locB l = true) : locB (lamL k m l) = true := by
  unfold lamL
  split
  · exact hm
  · split
    · exact hk
    · exact hl

theorem phi_ord {T T' : List (List Ins)} {σ : Nat → Nat} {k m : Int} {x : Exe} {loc : Int} (hl : locB loc = true) : ordAt (phiX T T' σ k m x) loc = (ordAt x (lamL k m loc)).map (piI T T' σ) := by
  unfold locB at hl
  simp only [Bool.and_eq_true, decide_eq_true_eq] at hl
  obtain ⟨j, rfl⟩ := Int.eq_ofNat_of_zero_le hl.1
  have hj : j < 3 := by omega
  show ((List.range 3).map fun l : Nat => (ordAt x (lamL k m (l : Int))).map (piI T T' σ)).getD (j : Int).toNat [] = _
  rw [Int.toNat_natCast, List.getD_eq_getElem?_getD, List.getElem?_map, List.getElem?_range hj]
  rfl

/-- All that is known of a test and of its other one. -/
structure Rn (T T' : List (List Ins)) (σ : Nat → Nat) (k m : Int) : Prop where
  r : Ren T T' σ k m
  f : Fits T
  f' : Fits T'
  hk : locB k = true
  hm : locB m = true
theorem Rn.symm {T T' : List (List Ins)} {σ : Nat → Nat} {k m : Int} (h : Rn T T' σ k m) : Rn T' T σ k m := ⟨h.r.symm, h.f', h.f, h.hk, h.hm⟩

theorem phi_isEx {T T' : List (List Ins)} {σ : Nat → Nat} {k m : Int} (h : Rn T T' σ k m) {x : Exe} (hx : IsEx (evsT T 0) x) : IsEx (evsT T' 0) (phiX T T' σ k m x) := by
  have hr := hx.ranks h.f.el h.f.locs
  refine ⟨by show ((rdsX (evsT T' 0) 0).map _).length = _; rw [List.length_map], fun q hq => ?_, by show ((List.range 3).map _).length = 3; simp, fun j l hl => ?_⟩
  · rw [show (phiX T T' σ k m x).from' = (rdsX (evsT T' 0) 0).map fun p => piI T T' σ (srcS (evsT T 0) x (piE T' T σ p.1)) from rfl, zip_self] at hq
    obtain ⟨p, hp, rfl⟩ := List.mem_map.1 hq
    obtain ⟨_, h1, h2⟩ := rdsX_mem hp
    rw [Nat.sub_zero] at h1
    have hy := ren_ev h.r.symm h1
    have hyl := ev_loc h1 (.inl h2) k m (σ p.2.thread.toNat)
    rcases hr.read _ _ hy h2 with ⟨s1, _⟩ | ⟨a, q', s1, s2, s3, _⟩
    · refine .inl ?_
      show piI T T' σ (srcS (evsT T 0) x (piE T' T σ p.1)) = -1
      have s1' : srcS (evsT T 0) x (piE T' T σ p.1) = -1 := s1
      rw [s1', piI_neg]
    · refine .inr ?_
      show piI T T' σ (srcS (evsT T 0) x (piE T' T σ p.1)) ∈ wrs (evsT T' 0) 0 p.2.loc
      have s1' : srcS (evsT T 0) x (piE T' T σ p.1) = (a : Int) := s1
      rw [s1', piI_nat]
      have hlb := h.f.locs _ (List.mem_of_getElem? hy)
      obtain ⟨i, ya, e1, e2, e3, e4⟩ := (hr.mem _ hlb (a : Int)).1 (List.mem_of_getElem? s3)
      have hai : a = i := by omega
      subst hai
      refine wrs_iff.2 ⟨_, _, ren_ev h.r e1, rfl, e3, ?_⟩
      rw [ev_loc e1 (.inr e3), e4, hyl, lamL_inv]
  · have hl' : ((List.range 3).map fun l : Nat => (ordAt x (lamL k m (l : Int))).map (piI T T' σ))[j]? = some l := hl
    have hj : j < 3 := by have := (List.getElem?_eq_some_iff.1 hl').1; simpa using this
    rw [List.getElem?_map, List.getElem?_range hj] at hl'
    simp at hl'
    subst hl'
    have hjl : locB (j : Int) = true := by unfold locB; simp; omega
    have hlb := lamL_ok h.hk h.hm hjl
    obtain ⟨hnd, _⟩ := hr.nd _ hlb
    have hmem := hr.mem _ hlb
    refine ⟨nodup_map_on (fun a ha b hb e => ?_) hnd, fun a => ?_⟩
    · obtain ⟨i, _, e1, rfl, _, _⟩ := (hmem a).1 ha
      obtain ⟨i', _, e1', rfl, _, _⟩ := (hmem b).1 hb
      rw [piI_nat, piI_nat] at e
      have := piE_inj h.r (List.getElem?_eq_some_iff.1 e1).1 (List.getElem?_eq_some_iff.1 e1').1 (by omega)
      rw [this]
    · rw [List.mem_map, wrs_iff]
      constructor
      · rintro ⟨b, hb, rfl⟩
        obtain ⟨i, y, e1, rfl, e3, e4⟩ := (hmem b).1 hb
        rw [piI_nat]
        exact ⟨_, _, ren_ev h.r e1, rfl, e3, by rw [ev_loc e1 (.inr e3), e4, lamL_inv]⟩
      · rintro ⟨i, y, e1, rfl, e3, e4⟩
        have hy := ren_ev h.r.symm e1
        refine ⟨((piE T' T σ i : Nat) : Int), (hmem _).2 ⟨_, _, hy, rfl, e3, by rw [ev_loc e1 (.inr e3), e4]⟩, ?_⟩
        rw [piI_nat, piE_inv h.r.symm (List.getElem?_eq_some_iff.1 e1).1]

abbrev rkX (E : List Evt) (x : Exe) : Nat → Int := rankG E.length (srcL E x.from') x.order

theorem phi_src {T T' : List (List Ins)} {σ : Nat → Nat} {k m : Int} (h : Rn T T' σ k m) {x : Exe} (hx : IsEx (evsT T 0) x) {e : Nat} (he : e < (evsT T 0).length) : srcS (evsT T' 0) (phiX T T' σ k m x) (piE T T' σ e) = piI T T' σ (srcS (evsT T 0) x e) := by
  have hr := hx.ranks h.f.el h.f.locs
  have hr' := (phi_isEx h hx).ranks h.f'.el h.f'.locs
  obtain ⟨y, hy⟩ := get_of_lt he
  have hy' := ren_ev h.r hy
  by_cases hk : y.kind = 0
  · have hz := (hr'.zip _ _ _).2 ⟨hy', hk, rfl⟩
    rw [show (phiX T T' σ k m x).from' = (rdsX (evsT T' 0) 0).map fun p => piI T T' σ (srcS (evsT T 0) x (piE T' T σ p.1)) from rfl, zip_self] at hz
    obtain ⟨p, hp, e1⟩ := List.mem_map.1 hz
    have e2 := congrArg (fun q => q.2) e1
    have e3 := congrArg (fun q => q.1.1) e1
    simp only at e2 e3
    rw [e3, piE_inv h.r he] at e2
    exact e2.symm
  · have h1 := hr.other e y hy hk
    have h2 := hr'.other _ _ hy' hk
    have h1' : srcS (evsT T 0) x e = -1 := h1
    rw [h1', piI_neg]
    exact h2

theorem phi_rank {T T' : List (List Ins)} {σ : Nat → Nat} {k m : Int} (h : Rn T T' σ k m) {x : Exe} (hx : IsEx (evsT T 0) x) {e : Nat} {y : Evt} (hy : (evsT T 0)[e]? = some y) (hk : y.kind = 0 ∨ y.kind = 1) : rkX (evsT T' 0) (phiX T T' σ k m x) (piE T T' σ e) = rkX (evsT T 0) x e := by
  have hr := hx.ranks h.f.el h.f.locs
  have hr' := (phi_isEx h hx).ranks h.f'.el h.f'.locs
  have he := (List.getElem?_eq_some_iff.1 hy).1
  have hy' := ren_ev h.r hy
  have hyl := ev_loc hy hk k m (σ y.thread.toNat)
  have hlb := h.f.locs y (List.mem_of_getElem? hy)
  have hlb' := lamL_ok h.hk h.hm hlb
  have hord : ordAt (phiX T T' σ k m x) (lamL k m y.loc) = (ordAt x y.loc).map (piI T T' σ) := by rw [phi_ord hlb', lamL_inv]
  obtain ⟨hnd', _⟩ := hr'.nd _ hlb'
  have hS := phi_src h hx he
  rcases hk with hk | hk
  · rcases hr.read e y hy hk with ⟨s1, s2⟩ | ⟨a, q, s1, s2, s3, s4⟩
    · rcases hr'.read _ _ hy' hk with ⟨_, t2⟩ | ⟨a', q', t1, _, _, _⟩
      · exact t2.trans s2.symm
      · exfalso
        have s1' : srcS (evsT T 0) x e = -1 := s1
        have t1' : srcS (evsT T' 0) (phiX T T' σ k m x) (piE T T' σ e) = (a' : Int) := t1
        rw [s1', piI_neg, t1'] at hS
        omega
    · have s1' : srcS (evsT T 0) x e = (a : Int) := s1
      rw [s1', piI_nat] at hS
      rcases hr'.read _ _ hy' hk with ⟨t1, _⟩ | ⟨a', q', t1, _, t3, t4⟩
      · exfalso
        have t1' : srcS (evsT T' 0) (phiX T T' σ k m x) (piE T T' σ e) = -1 := t1
        rw [t1'] at hS
        omega
      · have t1' : srcS (evsT T' 0) (phiX T T' σ k m x) (piE T T' σ e) = (a' : Int) := t1
        rw [t1'] at hS
        rw [hyl, hord] at t3
        have u3 : ((ordAt x y.loc).map (piI T T' σ))[q]? = some (a' : Int) := by rw [List.getElem?_map, s3, Option.map_some, piI_nat, hS]
        rw [hord] at hnd'
        have := pos_eq hnd' u3 t3
        subst this
        exact t4.trans s4.symm
  · obtain ⟨q, s3, s4⟩ := hr.write e y hy hk
    obtain ⟨q', t3, t4⟩ := hr'.write _ _ hy' hk
    rw [hyl, hord] at t3
    have u3 : ((ordAt x y.loc).map (piI T T' σ))[q]? = some ((piE T T' σ e : Nat) : Int) := by rw [List.getElem?_map, s3, Option.map_some, piI_nat]
    rw [hord] at hnd'
    have := pos_eq hnd' u3 t3
    subst this
    exact t4.trans s4.symm

end Go.Proofs.Ytomijmikkbhgmab

namespace Go.Proofs.Ytomijmikkbhgmab

/-! the last Read into a register -/
def hitB (y z : Evt) : Bool := z.kind == 0 && z.thread == y.thread && z.ins.reg == y.ins.reg

theorem srcG_nil0 (y : Evt) (l : List Evt) (i : Nat) (a : Int) (h : ∀ (d : Nat) (z : Evt), l[d]? = some z → hitB y z = false) : srcG y l i a = a := by
  induction l generalizing i a with
  | nil => rfl
  | cons z l ih =>
    have h0 : (z.kind == 0 && z.thread == y.thread && z.ins.reg == y.ins.reg) = false := h 0 z rfl
    rw [srcG, h0]
    exact ih (i + 1) a (fun d z hz => h (d + 1) z (by simpa using hz))
theorem srcG_last (y : Evt) (l : List Evt) (i : Nat) (a : Int) (c : Nat) (z : Evt) (hc : l[c]? = some z) (hz : hitB y z = true) (h : ∀ (d : Nat) (z : Evt), c < d → l[d]? = some z → hitB y z = false) : srcG y l i a = ((i + c : Nat) : Int) := by
  induction l generalizing i a c with
  | nil => simp at hc
  | cons u l ih =>
    cases c with
    | zero =>
      simp at hc
      subst hc
      have h0 : (u.kind == 0 && u.thread == y.thread && u.ins.reg == y.ins.reg) = true := hz
      rw [srcG, h0]
      rw [srcG_nil0 y l (i + 1) _ (fun d z hd => h (d + 1) z (by omega) (by simpa using hd))]
      rfl
    | succ c =>
      rw [srcG, ih (i + 1) _ c (by simpa using hc) (fun d z hd hz => h (d + 1) z (by omega) (by simpa using hz))]
      omega
theorem last_hit (y : Evt) (l : List Evt) : (∀ (d : Nat) (z : Evt), l[d]? = some z → hitB y z = false) ∨ ∃ (c : Nat) (z : Evt), l[c]? = some z ∧ hitB y z = true ∧ ∀ (d : Nat) (z : Evt), c < d → l[d]? = some z → hitB y z = false := by
  induction l with
  | nil => exact .inl fun d z h => by simp at h
  | cons u l ih =>
    rcases ih with h | ⟨c, z, h1, h2, h3⟩
    · cases hu : hitB y u
      · refine .inl fun d z hz => ?_
        cases d with
        | zero => simp at hz; subst hz; exact hu
        | succ d => exact h d z (by simpa using hz)
      · refine .inr ⟨0, u, rfl, hu, fun d z hd hz => ?_⟩
        cases d with
        | zero => omega
        | succ d => exact h d z (by simpa using hz)
    · refine .inr ⟨c + 1, z, by simpa using h1, h2, fun d z hd hz => ?_⟩
      cases d with
      | zero => omega
      | succ d => exact h3 d z (by omega) (by simpa using hz)

theorem tr_hit {k m : Int} {a : Nat} {y y' z : Evt} (hr : y'.ins.reg = y.ins.reg) (ht : ((a : Int) == y'.thread) = (z.thread == y.thread)) : hitB y' (trE k m a z) = hitB y z := by
  unfold hitB trE
  simp only [swI_reg, hr]
  rw [ht]

theorem srcG_pi {T T' : List (List Ins)} {σ : Nat → Nat} {k m : Int} (h : Ren T T' σ k m) {y y' : Evt} {a : Nat} (ha : a < T.length) (hy : y.thread = (a : Int)) (hy' : y'.thread = ((σ a : Nat) : Int)) (hreg : y'.ins.reg = y.ins.reg) (J J' : Nat) (hb : ∀ (d : Nat) (z : Evt), (evsT T 0)[d]? = some z → z.thread = (a : Int) → (d < J ↔ piE T T' σ d < J')) :
    srcG y' ((evsT T' 0).take J') 0 (-1) = piI T T' σ (srcG y ((evsT T 0).take J) 0 (-1)) := by
  have hth : ∀ z ∈ evsT T 0, ((((σ z.thread.toNat : Nat) : Int)) == y'.thread) = (z.thread == y.thread) := fun z hz => by
    obtain ⟨i, _, _, h1, _, _, h4, _⟩ := evsT_mem hz
    have hi : i < T.length := by have := (List.getElem?_eq_some_iff.1 h4).1; omega
    rw [hy, hy', h1, Int.toNat_natCast]
    rw [Bool.eq_iff_iff, beq_iff_eq, beq_iff_eq]
    constructor
    · intro e
      have e' : σ i = σ a := by omega
      have := congrArg σ e'
      rw [(h.inv i hi).2, (h.inv a ha).2] at this
      omega
    · intro e
      have : i = a := by omega
      rw [this]
  -- a hit over there is one here
  have back : ∀ (d' : Nat) (z' : Evt), ((evsT T' 0).take J')[d']? = some z' → hitB y' z' = true → ∃ z, ((evsT T 0).take J)[piE T' T σ d']? = some z ∧ hitB y z = true ∧ piE T T' σ (piE T' T σ d') = d' ∧ (evsT T' 0)[d']? = some z' := fun d' z' hz' hh => by
    have hdl := (List.getElem?_eq_some_iff.1 hz').1
    rw [List.length_take] at hdl
    rw [List.getElem?_take_of_lt (by omega)] at hz'
    have hz := ren_ev h.symm hz'
    have hinv := piE_inv h.symm (e := d') (by omega)
    have h2 := ren_ev h hz
    rw [hinv, hz'] at h2
    have h3 : z' = trE k m (σ (trE k m (σ z'.thread.toNat) z').thread.toNat) (trE k m (σ z'.thread.toNat) z') := Option.some.inj h2
    have hh2 : hitB y (trE k m (σ z'.thread.toNat) z') = true := by
      rw [← tr_hit (k := k) (m := m) (a := σ (trE k m (σ z'.thread.toNat) z').thread.toNat) hreg (hth _ (List.mem_of_getElem? hz)), ← h3]
      exact hh
    have ht2 : (trE k m (σ z'.thread.toNat) z').thread = (a : Int) := by
      unfold hitB at hh2
      simp only [Bool.and_eq_true, beq_iff_eq] at hh2
      rw [hh2.1.2, hy]
    have hlt : piE T' T σ d' < J := (hb _ _ hz ht2).2 (by rw [hinv]; omega)
    exact ⟨_, by rw [List.getElem?_take_of_lt hlt]; exact hz, hh2, hinv, hz'⟩
  rcases last_hit y ((evsT T 0).take J) with hn | ⟨c, z, h1, h2, h3⟩
  · rw [srcG_nil0 y _ 0 (-1) hn, piI_neg]
    refine srcG_nil0 y' _ 0 (-1) fun d' z' hz' => ?_
    cases hh : hitB y' z'
    · rfl
    · obtain ⟨z, hz, hhz, _⟩ := back d' z' hz' hh
      rw [hn _ z hz] at hhz
      cases hhz
  · rw [srcG_last y _ 0 (-1) c z h1 h2 h3, Nat.zero_add, piI_nat]
    have hcl := (List.getElem?_eq_some_iff.1 h1).1
    rw [List.length_take] at hcl
    have hz0 : (evsT T 0)[c]? = some z := by rw [← h1, List.getElem?_take_of_lt (by omega)]
    have hzt : z.thread = (a : Int) := by
      unfold hitB at h2
      simp only [Bool.and_eq_true, beq_iff_eq] at h2
      rw [h2.1.2, hy]
    have hlt := (hb c z hz0 hzt).1 (by omega)
    rw [srcG_last y' _ 0 (-1) (piE T T' σ c) (trE k m (σ z.thread.toNat) z) (by rw [List.getElem?_take_of_lt hlt]; exact ren_ev h hz0) (by rw [tr_hit hreg (hth z (List.mem_of_getElem? hz0))]; exact h2) (fun d' z' hd hz' => ?_), Nat.zero_add]
    cases hh : hitB y' z'
    · rfl
    · obtain ⟨u, hu, hhu, hinv, hz0'⟩ := back d' z' hz' hh
      have hcd : c < piE T' T σ d' := by
        have hth1 : (trE k m (σ z.thread.toNat) z).thread = z'.thread := by
          unfold hitB at hh
          simp only [Bool.and_eq_true, beq_iff_eq] at hh
          rw [hh.1.2, hy']
          show ((σ z.thread.toNat : Nat) : Int) = _
          rw [hzt, Int.toNat_natCast]
        have := piE_mono (T' := T) (σ := σ) (ren_ev h hz0) hz0' hth1 hd
        rw [piE_inv h (List.getElem?_eq_some_iff.1 hz0).1] at this
        exact this
      rw [h3 _ u hcd hu] at hhu
      cases hhu

/-! arrows -/
theorem cyc_pi {n : Nat} {A A' : List (Int × Int)} {π ρ : Nat → Nat} (h1 : ∀ a, a < n → π a < n ∧ ρ (π a) = a) (h2 : ∀ a, a < n → ρ a < n ∧ π (ρ a) = a) (h : ∀ a b : Nat, a < n → b < n → ((a : Int), (b : Int)) ∈ A' → ((ρ a : Int), (ρ b : Int)) ∈ A) (hc : Cyc n A') : Cyc n A := by
  obtain ⟨S, ⟨b, hb, hS⟩, hC⟩ := hc
  refine ⟨fun e => S (π e), ⟨ρ b, (h2 b hb).1, by show S (π (ρ b)); rw [(h2 b hb).2]; exact hS⟩, fun e he hSe => ?_⟩
  obtain ⟨a, ha, hSa, harr⟩ := hC (π e) (h1 e he).1 hSe
  refine ⟨ρ a, (h2 a ha).1, by show S (π (ρ a)); rw [(h2 a ha).2]; exact hSa, ?_⟩
  have := h a (π e) ha (h1 e he).1 harr
  rw [(h1 e he).2] at this
  exact this

theorem same_tr {T T' : List (List Ins)} {σ : Nat → Nat} {k m : Int} (h : Ren T T' σ k m) {a b : Nat} {ya yb : Evt} (ha : (evsT T 0)[a]? = some ya) (hb : (evsT T 0)[b]? = some yb) : ((trE k m (σ ya.thread.toNat) ya).thread = (trE k m (σ yb.thread.toNat) yb).thread ↔ ya.thread = yb.thread) := by
  obtain ⟨i, l, _, h1, _, _, h4⟩ := ev_find ha
  obtain ⟨j, l', _, h1', _, _, h4'⟩ := ev_find hb
  have hi := (List.getElem?_eq_some_iff.1 h1).1
  have hj := (List.getElem?_eq_some_iff.1 h1').1
  show ((σ ya.thread.toNat : Nat) : Int) = ((σ yb.thread.toNat : Nat) : Int) ↔ _
  rw [h4, h4', Int.toNat_natCast, Int.toNat_natCast]
  constructor
  · intro e
    have e' : σ i = σ j := by omega
    have := congrArg σ e'
    rw [(h.inv i hi).2, (h.inv j hj).2] at this
    omega
  · intro e
    have : i = j := by omega
    rw [this]

theorem same_tr_loc {T : List (List Ins)} {k m : Int} {a b i j : Nat} {ya yb : Evt} (ha : (evsT T 0)[a]? = some ya) (hb : (evsT T 0)[b]? = some yb) : sameB (trE k m i ya) (trE k m j yb) = sameB ya yb := by
  unfold sameB
  show (memB ya.kind && memB yb.kind && (trE k m i ya).loc == (trE k m j yb).loc) = _
  cases h1 : memB ya.kind
  · rfl
  · cases h2 : memB yb.kind
    · rfl
    · unfold memB at h1 h2
      simp only [Bool.or_eq_true, beq_iff_eq] at h1 h2
      rw [ev_loc ha h1, ev_loc hb h2]
      simp only [Bool.true_and]
      rw [Bool.eq_iff_iff, beq_iff_eq, beq_iff_eq]
      exact ⟨fun e => lamL_inj e, fun e => by rw [e]⟩

/-- The arrows of an execution over there are those of this one. -/
theorem exQ_pi {T T' : List (List Ins)} {σ : Nat → Nat} {k m : Int} (h : Rn T T' σ k m) {x : Exe} (hx : IsEx (evsT T 0) x) {a b : Nat} (ha : a < (evsT T 0).length) (hb : b < (evsT T 0).length) : ((piE T T' σ a : Int), (piE T T' σ b : Int)) ∈ exQ (evsT T' 0) (phiX T T' σ k m x) ↔ ((a : Int), (b : Int)) ∈ exQ (evsT T 0) x := by
  obtain ⟨ya, hya⟩ := get_of_lt ha
  obtain ⟨yb, hyb⟩ := get_of_lt hb
  have hya' := ren_ev h.r hya
  have hyb' := ren_ev h.r hyb
  unfold exQ
  rw [allS_mem, allS_mem, ren_len h.r]
  have hS := phi_src h hx hb
  have e1 : exF (evsT T' 0) (rkX (evsT T' 0) (phiX T T' σ k m x)) (piE T T' σ a) (piE T T' σ b) = exF (evsT T 0) (rkX (evsT T 0) x) a b := by
    unfold exF
    rw [pairB_get hya' hyb', pairB_get hya hyb, same_tr_loc hya hyb]
    show (yb.kind == 1 && _) = (yb.kind == 1 && _)
    cases h1 : yb.kind == 1
    · rfl
    · cases h2 : sameB ya yb
      · rfl
      · have hkb : yb.kind = 1 := by simpa using h1
        have hka : ya.kind = 0 ∨ ya.kind = 1 := by
          unfold sameB memB at h2
          simp only [Bool.and_eq_true, Bool.or_eq_true, beq_iff_eq] at h2
          exact h2.1.1
        rw [phi_rank h hx hya hka, phi_rank h hx hyb (.inr hkb)]
  have hl := ren_len h.r
  have e1' : exF (evsT T' 0) (rankG (evsT T 0).length (srcL (evsT T' 0) (phiX T T' σ k m x).from') (phiX T T' σ k m x).order) (piE T T' σ a) (piE T T' σ b) = exF (evsT T 0) (rankG (evsT T 0).length (srcL (evsT T 0) x.from') x.order) a b := by
    have := e1
    unfold rkX at this
    rw [hl] at this
    exact this
  have hSS : (srcL (evsT T' 0) (phiX T T' σ k m x).from').getD (piE T T' σ b) 0 = piI T T' σ ((srcL (evsT T 0) x.from').getD b 0) := hS
  have hiff : (srcL (evsT T' 0) (phiX T T' σ k m x).from').getD (piE T T' σ b) 0 = ((piE T T' σ a : Nat) : Int) ↔ (srcL (evsT T 0) x.from').getD b 0 = (a : Int) := by
    rw [hSS]
    have hr := hx.ranks h.f.el h.f.locs
    constructor
    · intro e
      by_cases hk : yb.kind = 0
      · rcases hr.read b yb hyb hk with ⟨s1, _⟩ | ⟨f, _, s1, s2, _, _⟩
        · rw [s1, piI_neg] at e; omega
        · rw [s1, piI_nat] at e
          have := piE_inj h.r s2 ha (by omega)
          rw [s1, this]
      · have s1 := hr.other b yb hyb hk
        rw [s1, piI_neg] at e; omega
    · intro e
      rw [e, piI_nat]
  have hpa := piE_lt h.r ha
  have hpb := piE_lt h.r hb
  rw [hl] at hpa hpb
  constructor
  · rintro ⟨_, q | ⟨_, q⟩⟩
    · exact ⟨hb, .inl (hiff.1 q)⟩
    · exact ⟨hb, .inr ⟨ha, by rw [← e1']; exact q⟩⟩
  · rintro ⟨_, q | ⟨_, q⟩⟩
    · exact ⟨hpb, .inl (hiff.2 q)⟩
    · exact ⟨hpb, .inr ⟨hpa, by rw [e1']; exact q⟩⟩

end Go.Proofs.Ytomijmikkbhgmab

namespace Go.Proofs.Ytomijmikkbhgmab

theorem lastR_succ {E : List Evt} {R : List Nat} {t e : Nat} (h : R[t]? = some e) (loc : Int) : lastR E R loc (t + 1) = if isWr E loc e then (e : Int) else lastR E R loc t := by
  unfold lastR
  rw [take_snoc h, List.filter_append]
  cases hw : isWr E loc e
  · rw [List.filter_cons_of_neg (by simp [hw]), List.filter_nil, List.append_nil]
    rfl
  · rw [List.filter_cons_of_pos hw, List.filter_nil, List.getLast?_concat]
    rfl

theorem srcG_snoc (y : Evt) (l : List Evt) (z : Evt) (i : Nat) (a : Int) : srcG y (l ++ [z]) i a = if hitB y z then ((i + l.length : Nat) : Int) else srcG y l i a := by
  induction l generalizing i a with
  | nil => rw [List.nil_append]; unfold srcG srcG; unfold hitB; rfl
  | cons u l ih => rw [List.cons_append, srcG, ih, srcG, List.length_cons, show i + 1 + l.length = i + (l.length + 1) by omega]
theorem srcG_succ {y : Evt} {E : List Evt} {J : Nat} {z : Evt} (h : E[J]? = some z) : srcG y (E.take (J + 1)) 0 (-1) = if hitB y z then (J : Int) else srcG y (E.take J) 0 (-1) := by
  rw [take_snoc h, srcG_snoc, List.length_take, Nat.min_eq_left (Nat.le_of_lt (List.getElem?_eq_some_iff.1 h).1), Nat.zero_add]

theorem srcG_only {y y' : Evt} (h1 : y.thread = y'.thread) (h2 : y.ins.reg = y'.ins.reg) (l : List Evt) (i : Nat) (a : Int) : srcG y l i a = srcG y' l i a := by
  induction l generalizing i a with
  | nil => rfl
  | cons z l ih => rw [srcG, srcG, h1, h2, ih]

theorem mayB_reg {x : Ins} (h : mayB x = true) (ho : x.op = 1 ∨ x.op = 2 ∨ x.op = 3) : locB x.reg = true := by
  unfold mayB at h
  rcases ho with o | o | o <;> rw [o] at h <;> simp at h <;> simp [h]

structure ValOk (T : List (List Ins)) (Rs : List Nat) (V : Int → Int) (R : List Nat) (M : Mo) : Prop where
  lc : ∀ a : Nat, a < 3 → M.lc a = V (lastR (evsT T 0) Rs (a : Int) R.length)
  rg : ∀ i l, T[i]? = some l → ∀ r : Nat, r < 3 → M.rg i r = V (srcG (evtOf (i : Int) (r : Int)) ((evsT T 0).take (offT T i + evc l (M.pc i))) 0 (-1))

theorem valOk_start {T : List (List Ins)} {Rs : List Nat} {τ : Nat → Nat} {V : Int → Int} (hV : ValR T Rs τ V) : ValOk T Rs V [] moZ := by
  refine ⟨fun a _ => ?_, fun i l hl r _ => ?_⟩
  · show (0 : Int) = _
    unfold lastR
    rw [List.length_nil, List.take_zero]
    exact hV.neg.symm
  · show (0 : Int) = _
    have h0 : evc l (moZ.pc i) = 0 := by simp [evc, moZ, evsI]
    rw [h0, Nat.add_zero, srcG_nil0, hV.neg]
    intro d z hz
    have hdl := (List.getElem?_eq_some_iff.1 hz).1
    rw [List.length_take] at hdl
    rw [List.getElem?_take_of_lt (by omega)] at hz
    cases hh : hitB (evtOf (i : Int) (r : Int)) z
    · rfl
    · exfalso
      obtain ⟨j, r', l', hat⟩ := at_of hz
      unfold hitB at hh
      simp only [Bool.and_eq_true, beq_iff_eq] at hh
      have ht : z.thread = (i : Int) := hh.1.2
      have := hat.th
      have hji : j = i := by omega
      subst hji
      have := hat.2.2
      omega

/-- One event more, of thread i. -/
theorem val_one {T : List (List Ins)} {Rs : List Nat} {e i c : Nat} {l : List Ins} {y : Evt} (ha : At T e i c l y) {t : Nat} (hR : Rs[t]? = some e) : (∀ a : Int, lastR (evsT T 0) Rs a (t + 1) = if y.kind == 1 && y.loc == a then (e : Int) else lastR (evsT T 0) Rs a t) ∧ ∀ r : Int, srcG (evtOf (i : Int) r) ((evsT T 0).take (offT T i + c + 1)) 0 (-1) = if y.kind == 0 && y.ins.reg == r then (e : Int) else srcG (evtOf (i : Int) r) ((evsT T 0).take (offT T i + c)) 0 (-1) := by
  refine ⟨fun a => ?_, fun r => ?_⟩
  · rw [lastR_succ hR]
    unfold isWr
    rw [ha.ev]
  · have h1 := ha.ev
    rw [ha.2.2] at h1
    rw [srcG_succ h1, ha.2.2]
    have : hitB (evtOf (i : Int) r) y = (y.kind == 0 && y.ins.reg == r) := by
      unfold hitB
      rw [ha.th]
      show (y.kind == 0 && (i : Int) == (i : Int) && y.ins.reg == r) = _
      rw [beq_self_eq_true, Bool.and_true]
    rw [this]

theorem valOk_step {T : List (List Ins)} {c0 : List Atm} (hz : ((chk T c0).1 == 0) = true) {Rs : List Nat} {τ : Nat → Nat} {V : Int → Int} (hO : RowOk (evsT T 0) Rs τ) (hV : ValR T Rs τ V) {R : List Nat} {M M' : Mo} {i : Nat} {l : List Ins} {x : Ins} (h : RunOk T R M) (hv : ValOk T Rs V R M) (hl : T[i]? = some l) (hx : l[M.pc i / 2]? = some x) (hk : StepK T M i l x M') (rest : List Nat) (hRs : Rs = R ++ List.range' (offT T i + evc l (M.pc i)) (evc l (M'.pc i) - evc l (M.pc i)) ++ rest) :
    ValOk T Rs V (R ++ List.range' (offT T i + evc l (M.pc i)) (evc l (M'.pc i) - evc l (M.pc i))) M' := by
  obtain ⟨e1, e2, e3⟩ := step_evc h.pcs hl hx hk
  have hmay := chk_may hz l (List.mem_of_getElem? hl) x (List.mem_of_getElem? hx)
  -- other threads
  have hoth : (∀ j, j ≠ i → M'.rg j = M.rg j) → ∀ j lj, j ≠ i → T[j]? = some lj → ∀ r : Nat, r < 3 → M'.rg j r = V (srcG (evtOf (j : Int) (r : Int)) ((evsT T 0).take (offT T j + evc lj (M'.pc j))) 0 (-1)) := fun hg j lj hj hlj r hr => by
    rw [hg j hj, e1, upd_ne _ _ hj]
    exact hv.rg j lj hlj r hr
  -- one event that neither reads nor writes
  have none1 : ∀ y, (evsI i l 0)[evc l (M.pc i)]? = some y → y.kind ≠ 0 → y.kind ≠ 1 → evc l (M'.pc i) = evc l (M.pc i) + 1 → M'.lc = M.lc → M'.rg = M.rg → ValOk T Rs V (R ++ List.range' (offT T i + evc l (M.pc i)) (evc l (M'.pc i) - evc l (M.pc i))) M' := fun y hy k0 k1 ev hlc hrg => by
    have ha : At T (offT T i + evc l (M.pc i)) i (evc l (M.pc i)) l y := ⟨hl, hy, rfl⟩
    rw [ev, Nat.add_sub_cancel_left] at hRs ⊢
    have hR : Rs[R.length]? = some (offT T i + evc l (M.pc i)) := by rw [hRs]; simp
    obtain ⟨q1, q2⟩ := val_one ha hR
    have b0 : (y.kind == 0) = false := by simpa using k0
    have b1 : (y.kind == 1) = false := by simpa using k1
    refine ⟨fun a ha => ?_, fun j lj hlj r hr => ?_⟩
    · rw [hlc, List.length_append, List.length_range', q1, b1]
      exact hv.lc a ha
    · by_cases hj : j = i
      · subst hj
        rw [hl] at hlj
        cases hlj
        rw [hrg, ev, ← Nat.add_assoc, q2, b0]
        exact hv.rg j l hl r hr
      · exact hoth (fun _ _ => by rw [hrg]) j lj hj hlj r hr
  have hevl : M.pc i % 2 = 0 → evc l (M.pc i) = (evsI 0 (l.take (M.pc i / 2)) 0).length := fun hq => by unfold evc; omega
  cases hk with
  | begin h7 hq hM =>
    rw [if_pos h7] at e2
    have hy := ev_ins (i := i) (t := 0) (kd := 4) hx (by rw [h7]; rfl)
    rw [Nat.add_zero, ← hevl hq] at hy
    exact none1 _ hy (by show (4 : Int) ≠ 0; omega) (by show (4 : Int) ≠ 1; omega) e2 (by rw [hM]) (by rw [hM])
  | finish h7 hq _ hM =>
    rw [if_pos h7] at e2
    have hy := ev_ins (i := i) (t := 1) (kd := 5) hx (by rw [h7]; rfl)
    rw [show (evsI 0 (l.take (M.pc i / 2)) 0).length + 1 = evc l (M.pc i) by unfold evc; omega] at hy
    exact none1 _ hy (by show (5 : Int) ≠ 0; omega) (by show (5 : Int) ≠ 1; omega) e2 (by rw [hM]) (by rw [hM])
  | other h7 hM =>
    have hq := e3 h7
    have hel := hevl hq
    rw [if_neg h7] at e2
    have hrg' : M'.rg = (doMo M i x).rg := by rw [hM]
    have hlc' : M'.lc = (doMo M i x).lc := by rw [hM]
    have hlocb := mayB_loc hmay
    have hln : ((x.loc.toNat : Nat) : Int) = x.loc ∧ x.loc.toNat < 3 := by
      unfold locB at hlocb
      simp only [Bool.and_eq_true, decide_eq_true_eq] at hlocb
      omega
    by_cases o0 : x.op = 0
    · -- Store
      have hd : doMo M i x = { M with lc := upd M.lc x.loc.toNat x.val } := by unfold doMo; rw [if_pos (by simp [o0])]
      have hy := ev_ins (i := i) (t := 0) (kd := 1) hx (by rw [o0]; rfl)
      rw [Nat.add_zero, ← hel] at hy
      have ha : At T (offT T i + evc l (M.pc i)) i (evc l (M.pc i)) l _ := ⟨hl, hy, rfl⟩
      have ev : evc l (M'.pc i) = evc l (M.pc i) + 1 := by rw [e2, o0]; rfl
      rw [ev, Nat.add_sub_cancel_left] at hRs ⊢
      have hR : Rs[R.length]? = some (offT T i + evc l (M.pc i)) := by rw [hRs]; simp
      obtain ⟨q1, q2⟩ := val_one ha hR
      have hVe := hV.else' _ _ ha.ev rfl (by rw [o0]; omega)
      refine ⟨fun a ha3 => ?_, fun j lj hlj r hr => ?_⟩
      · rw [hlc', hd, List.length_append, List.length_range', q1]
        show upd M.lc x.loc.toNat x.val a = V (if ((1 : Int) == 1 && x.loc == (a : Int)) = true then _ else _)
        by_cases haa : a = x.loc.toNat
        · subst haa
          rw [upd_self, if_pos (by simp [hln.1]), hVe]
        · rw [upd_ne _ _ haa, if_neg (by simp; omega)]
          exact hv.lc a ha3
      · by_cases hj : j = i
        · subst hj
          rw [hl] at hlj
          cases hlj
          rw [hrg', hd, ev, ← Nat.add_assoc, q2]
          exact hv.rg j l hl r hr
        · exact hoth (fun _ _ => by rw [hrg', hd]) j lj hj hlj r hr
    · by_cases o1 : x.op = 1
      · -- Copy
        have hd : doMo M i x = { M with lc := upd M.lc x.loc.toNat (M.rg i x.reg.toNat) } := by unfold doMo; rw [if_neg (by simp [o0]), if_pos (by simp [o1])]
        have hy := ev_ins (i := i) (t := 0) (kd := 1) hx (by rw [o1]; rfl)
        rw [Nat.add_zero, ← hel] at hy
        have ha : At T (offT T i + evc l (M.pc i)) i (evc l (M.pc i)) l _ := ⟨hl, hy, rfl⟩
        have ev : evc l (M'.pc i) = evc l (M.pc i) + 1 := by rw [e2, o1]; rfl
        rw [ev, Nat.add_sub_cancel_left] at hRs ⊢
        have hR : Rs[R.length]? = some (offT T i + evc l (M.pc i)) := by rw [hRs]; simp
        obtain ⟨q1, q2⟩ := val_one ha hR
        have hVe := hV.copy _ _ ha.ev rfl o1
        have hrb := mayB_reg hmay (by omega)
        have hrn : ((x.reg.toNat : Nat) : Int) = x.reg ∧ x.reg.toNat < 3 := by
          unfold locB at hrb
          simp only [Bool.and_eq_true, decide_eq_true_eq] at hrb
          omega
        have hVr : V ((offT T i + evc l (M.pc i) : Nat) : Int) = M.rg i x.reg.toNat := by
          rw [hVe, hv.rg i l hl _ hrn.2, hrn.1]
          congr 1
          refine srcG_only ?_ ?_ _ _ _ <;> rfl
        refine ⟨fun a ha3 => ?_, fun j lj hlj r hr => ?_⟩
        · rw [hlc', hd, List.length_append, List.length_range', q1]
          show upd M.lc x.loc.toNat _ a = V (if ((1 : Int) == 1 && x.loc == (a : Int)) = true then _ else _)
          by_cases haa : a = x.loc.toNat
          · subst haa
            rw [upd_self, if_pos (by simp [hln.1]), hVr]
          · rw [upd_ne _ _ haa, if_neg (by simp; omega)]
            exact hv.lc a ha3
        · by_cases hj : j = i
          · subst hj
            rw [hl] at hlj
            cases hlj
            rw [hrg', hd, ev, ← Nat.add_assoc, q2]
            exact hv.rg j l hl r hr
          · exact hoth (fun _ _ => by rw [hrg', hd]) j lj hj hlj r hr
      · have hrn : x.op = 2 ∨ x.op = 3 → ((x.reg.toNat : Nat) : Int) = x.reg ∧ x.reg.toNat < 3 := fun ho => by
          have hrb := mayB_reg hmay (.inr ho)
          unfold locB at hrb
          simp only [Bool.and_eq_true, decide_eq_true_eq] at hrb
          omega
        by_cases o2 : x.op = 2
        · -- Load
          have hd : doMo M i x = { M with rg := upd M.rg i (upd (M.rg i) x.reg.toNat (M.lc x.loc.toNat)) } := by unfold doMo; rw [if_neg (by simp [o0]), if_neg (by simp [o1]), if_pos (by simp [o2])]
          have hy := ev_ins (i := i) (t := 0) (kd := 0) hx (by rw [o2]; rfl)
          rw [Nat.add_zero, ← hel] at hy
          have ha : At T (offT T i + evc l (M.pc i)) i (evc l (M.pc i)) l _ := ⟨hl, hy, rfl⟩
          have ev : evc l (M'.pc i) = evc l (M.pc i) + 1 := by rw [e2, o2]; rfl
          rw [ev, Nat.add_sub_cancel_left] at hRs ⊢
          have hR : Rs[R.length]? = some (offT T i + evc l (M.pc i)) := by rw [hRs]; simp
          obtain ⟨q1, q2⟩ := val_one ha hR
          have hVe := hV.read _ _ ha.ev rfl
          rw [(hO.inv _ _ hR).2] at hVe
          have hVl : V ((offT T i + evc l (M.pc i) : Nat) : Int) = M.lc x.loc.toNat := by
            rw [hVe, hv.lc _ hln.2, hln.1]
          obtain ⟨rn1, rn2⟩ := hrn (.inl o2)
          refine ⟨fun a ha3 => ?_, fun j lj hlj r hr => ?_⟩
          · rw [hlc', hd, List.length_append, List.length_range', q1]
            exact hv.lc a ha3
          · by_cases hj : j = i
            · subst hj
              rw [hl] at hlj
              cases hlj
              rw [hrg', hd, ev, ← Nat.add_assoc, q2]
              show upd M.rg j (upd (M.rg j) x.reg.toNat (M.lc x.loc.toNat)) j r = V (if ((0 : Int) == 0 && x.reg == (r : Int)) = true then _ else _)
              rw [upd_self]
              by_cases hrr : r = x.reg.toNat
              · subst hrr
                rw [upd_self, if_pos (by simp [rn1]), hVl]
              · rw [upd_ne _ _ hrr, if_neg (by simp; omega)]
                exact hv.rg j l hl r hr
            · exact hoth (fun k hk => by rw [hrg', hd]; exact upd_ne _ _ hk) j lj hj hlj r hr
        · by_cases o3 : x.op = 3
          · -- Swap
            have hd : doMo M i x = { M with rg := upd M.rg i (upd (M.rg i) x.reg.toNat (M.lc x.loc.toNat)), lc := upd M.lc x.loc.toNat x.val } := by unfold doMo; rw [if_neg (by simp [o0]), if_neg (by simp [o1]), if_neg (by simp [o2]), if_pos (by simp [o3])]
            have hy := ev_ins (i := i) (t := 0) (kd := 0) hx (by rw [o3]; rfl)
            have hy2 := ev_ins (i := i) (t := 1) (kd := 1) hx (by rw [o3]; rfl)
            rw [Nat.add_zero, ← hel] at hy
            rw [← hel] at hy2
            have ha : At T (offT T i + evc l (M.pc i)) i (evc l (M.pc i)) l _ := ⟨hl, hy, rfl⟩
            have ha2 : At T (offT T i + (evc l (M.pc i) + 1)) i (evc l (M.pc i) + 1) l _ := ⟨hl, hy2, rfl⟩
            have ev : evc l (M'.pc i) = evc l (M.pc i) + 2 := by rw [e2, o3]; rfl
            rw [ev, Nat.add_sub_cancel_left] at hRs ⊢
            have hRs2 : Rs = R ++ ((offT T i + evc l (M.pc i)) :: (offT T i + (evc l (M.pc i) + 1)) :: rest) := by rw [hRs, List.append_assoc]; rfl
            have hR : Rs[R.length]? = some (offT T i + evc l (M.pc i)) := by rw [hRs2]; simp
            have hR2 : Rs[R.length + 1]? = some (offT T i + (evc l (M.pc i) + 1)) := by rw [hRs2, List.getElem?_append_right (by omega)]; simp
            obtain ⟨q1, q2⟩ := val_one ha hR
            obtain ⟨p1, p2⟩ := val_one ha2 hR2
            have hVe := hV.read _ _ ha.ev rfl
            rw [(hO.inv _ _ hR).2] at hVe
            have hVl : V ((offT T i + evc l (M.pc i) : Nat) : Int) = M.lc x.loc.toNat := by
              rw [hVe, hv.lc _ hln.2, hln.1]
            have hVw := hV.else' _ _ ha2.ev rfl (by show x.op ≠ 1; omega)
            obtain ⟨rn1, rn2⟩ := hrn (.inr o3)
            refine ⟨fun a ha3 => ?_, fun j lj hlj r hr => ?_⟩
            · rw [hlc', hd, List.length_append, List.length_range', show R.length + 2 = R.length + 1 + 1 from rfl, p1, q1]
              show upd M.lc x.loc.toNat x.val a = V (if ((1 : Int) == 1 && x.loc == (a : Int)) = true then _ else lastR (evsT T 0) Rs (a : Int) R.length)
              by_cases haa : a = x.loc.toNat
              · subst haa
                rw [upd_self, if_pos (by simp [hln.1]), hVw]
              · rw [upd_ne _ _ haa, if_neg (by simp; omega)]
                exact hv.lc a ha3
            · by_cases hj : j = i
              · subst hj
                rw [hl] at hlj
                cases hlj
                have p2r := p2 (r : Int)
                have q2r := q2 (r : Int)
                rw [hrg', hd, ev, show offT T j + (evc l (M.pc j) + 2) = offT T j + (evc l (M.pc j) + 1) + 1 by omega, p2r, show offT T j + (evc l (M.pc j) + 1) = offT T j + evc l (M.pc j) + 1 by omega, q2r]
                show upd M.rg j (upd (M.rg j) x.reg.toNat (M.lc x.loc.toNat)) j r = V (if ((0 : Int) == 0 && x.reg == (r : Int)) = true then _ else _)
                rw [upd_self]
                by_cases hrr : r = x.reg.toNat
                · subst hrr
                  rw [upd_self, if_pos (by simp [rn1]), hVl]
                · rw [upd_ne _ _ hrr, if_neg (by simp; omega)]
                  exact hv.rg j l hl r hr
              · exact hoth (fun k hk => by rw [hrg', hd]; exact upd_ne _ _ hk) j lj hj hlj r hr
          · have hd : (doMo M i x).lc = M.lc ∧ (doMo M i x).rg = M.rg := by
              unfold doMo
              rw [if_neg (by simp [o0]), if_neg (by simp [o1]), if_neg (by simp [o2]), if_neg (by simp [o3])]
              split
              · exact ⟨rfl, rfl⟩
              · exact ⟨rfl, rfl⟩
            by_cases o5 : x.op = 5
            · have hy := ev_ins (i := i) (t := 0) (kd := 2) hx (by rw [o5]; rfl)
              rw [Nat.add_zero, ← hel] at hy
              exact none1 _ hy (by show (2 : Int) ≠ 0; omega) (by show (2 : Int) ≠ 1; omega) (by rw [e2, o5]; rfl) (by rw [hlc', hd.1]) (by rw [hrg', hd.2])
            · by_cases o6 : x.op = 6
              · have hy := ev_ins (i := i) (t := 0) (kd := 3) hx (by rw [o6]; rfl)
                rw [Nat.add_zero, ← hel] at hy
                exact none1 _ hy (by show (3 : Int) ≠ 0; omega) (by show (3 : Int) ≠ 1; omega) (by rw [e2, o6]; rfl) (by rw [hlc', hd.1]) (by rw [hrg', hd.2])
              · have hk0 : kindsOf x.op = [] := by
                  unfold kindsOf
                  simp [o0, o1, o2, o3, o5, o6, h7]
                have ev : evc l (M'.pc i) = evc l (M.pc i) := by rw [e2, hk0]; rfl
                rw [ev, Nat.sub_self, List.range'_zero, List.append_nil]
                refine ⟨fun a ha => by rw [hlc', hd.1]; exact hv.lc a ha, fun j lj hlj r hr => ?_⟩
                by_cases hj : j = i
                · subst hj
                  rw [hl] at hlj
                  cases hlj
                  rw [hrg', hd.2, ev]
                  exact hv.rg j l hl r hr
                · exact hoth (fun _ _ => by rw [hrg', hd.2]) j lj hj hlj r hr

theorem run_prefix {T : List (List Ins)} {c0 : List Atm} (hz : ((chk T c0).1 == 0) = true) {Rs : List Nat} {τ : Nat → Nat} {V : Int → Int} (hO : RowOk (evsT T 0) Rs τ) (hV : ValR T Rs τ V) {R : List Nat} {M : Mo} (h : Run T R M) (rest : List Nat) (hRs : Rs = R ++ rest) : ValOk T Rs V R M := by
  induction h generalizing rest with
  | start => exact valOk_start hV
  | step R M M' i l hr hl hs ih =>
    obtain ⟨x, hx, hk⟩ := step_kind hl hs
    exact valOk_step hz hO hV (run_ok hr) (ih _ (by rw [hRs, List.append_assoc])) hl hx hk rest hRs

end Go.Proofs.Ytomijmikkbhgmab
