import Derived.Test.YtomijmikkbhgmabT31
namespace Go.Proofs.Ytomijmikkbhgmab

theorem fen_sw {k m : Int} (l : List Ins) {a b a' b' : Evt} (h1 : a'.place = a.place) (h2 : b'.place = b.place) (h3 : a'.kind = a.kind) (h4 : b'.kind = b.kind) : fenB (l.map (swI k m)) a' b' = fenB l a b := by
  unfold fenB
  rw [h1, h2, ← List.map_take, ← List.map_drop, List.any_map]
  congr 1
  funext z
  unfold fen1
  simp only [Function.comp, swI_op, swI_mode, h3, h4]

theorem piE_iff {T T' : List (List Ins)} {σ : Nat → Nat} {k m : Int} (h : Ren T T' σ k m) {a b : Nat} {ya yb : Evt} (ha : (evsT T 0)[a]? = some ya) (hb : (evsT T 0)[b]? = some yb) (ht : ya.thread = yb.thread) : piE T T' σ a < piE T T' σ b ↔ a < b := by
  refine ⟨fun hl => ?_, fun hl => piE_mono ha hb ht hl⟩
  have := piE_mono (T' := T) (σ := σ) (ren_ev h ha) (ren_ev h hb) ((same_tr h ha hb).2 ht) hl
  rw [piE_inv h (List.getElem?_eq_some_iff.1 ha).1, piE_inv h (List.getElem?_eq_some_iff.1 hb).1] at this
  exact this

theorem getD_ren {T T' : List (List Ins)} {σ : Nat → Nat} {k m : Int} (h : Ren T T' σ k m) {a : Nat} (ha : a < T.length) : T'.getD (σ a) [] = (T.getD a []).map (swI k m) := by
  obtain ⟨l, hl⟩ := get_of_lt ha
  rw [List.getD_eq_getElem?_getD, List.getD_eq_getElem?_getD, h.row a l hl, hl]
  rfl

theorem cpy_src {T T' : List (List Ins)} {σ : Nat → Nat} {k m : Int} (h : Ren T T' σ k m) {b : Nat} {yb : Evt} (hb : (evsT T 0)[b]? = some yb) : srcG (trE k m (σ yb.thread.toNat) yb) ((evsT T' 0).take (piE T T' σ b)) 0 (-1) = piI T T' σ (srcG yb ((evsT T 0).take b) 0 (-1)) := by
  obtain ⟨i, l, _, h1, _, _, h4⟩ := ev_find hb
  have hi := (List.getElem?_eq_some_iff.1 h1).1
  refine srcG_pi h hi h4 ?_ (swI_reg k m _) b (piE T T' σ b) (fun d z hz hzt => (piE_iff h hz hb (by rw [hzt, h4])).symm)
  show ((σ yb.thread.toNat : Nat) : Int) = _
  rw [h4, Int.toNat_natCast]

theorem srcG_lt (y : Evt) (E : List Evt) (j : Nat) : srcG y (E.take j) 0 (-1) = -1 ∨ ∃ a : Nat, srcG y (E.take j) 0 (-1) = (a : Int) ∧ a < E.length := by
  rcases srcG_range y (E.take j) 0 (-1) (.inl rfl) with h | ⟨a, h1, h2⟩
  · exact .inl h
  · refine .inr ⟨a, h1, ?_⟩
    rw [List.length_take] at h2
    omega

theorem kep_pi {T T' : List (List Ins)} {σ : Nat → Nat} {k m : Int} (h : Ren T T' σ k m) {a b : Nat} (ha : a < (evsT T 0).length) (hb : b < (evsT T 0).length) : ((piE T T' σ a : Int), (piE T T' σ b : Int)) ∈ allU (pairB (evsT T' 0) (keepQ T' (evsT T' 0))) (evsT T' 0).length → ((a : Int), (b : Int)) ∈ allU (pairB (evsT T 0) (keepQ T (evsT T 0))) (evsT T 0).length := by
  obtain ⟨ya, hya⟩ := get_of_lt ha
  obtain ⟨yb, hyb⟩ := get_of_lt hb
  rw [allU_mem, allU_mem, pairB_get hya hyb, pairB_get (ren_ev h hya) (ren_ev h hyb)]
  rintro ⟨_, h2, h3⟩
  unfold keepQ at h3 ⊢
  rw [Bool.and_eq_true, beq_iff_eq] at h3
  obtain ⟨h4, h5⟩ := h3
  have ht := (same_tr h hya hyb).1 h4
  refine ⟨hb, (piE_iff h hya hyb ht).1 h2, ?_⟩
  rw [Bool.and_eq_true, beq_iff_eq]
  refine ⟨ht, ?_⟩
  rw [Bool.or_eq_true] at h5 ⊢
  rcases h5 with h5 | h5
  · refine .inl ?_
    obtain ⟨i, l, _, h1, _, _, h4'⟩ := ev_find hya
    have hi := (List.getElem?_eq_some_iff.1 h1).1
    have eT : T'.getD (trE k m (σ ya.thread.toNat) ya).thread.toNat [] = (T.getD ya.thread.toNat []).map (swI k m) := by
      show T'.getD ((σ ya.thread.toNat : Nat) : Int).toNat [] = _
      rw [Int.toNat_natCast, h4', Int.toNat_natCast]
      exact getD_ren h hi
    rw [eT] at h5
    unfold kepB at h5 ⊢
    rw [fen_sw (a := ya) (b := yb) (a' := trE k m (σ ya.thread.toNat) ya) (b' := trE k m (σ yb.thread.toNat) yb) _ rfl rfl rfl rfl] at h5
    have e1 : modB (trE k m (σ ya.thread.toNat) ya) (trE k m (σ yb.thread.toNat) yb) = modB ya yb := by
      unfold modB trE
      simp only [swI_mode]
    have e2 : mrkB (trE k m (σ ya.thread.toNat) ya) (trE k m (σ yb.thread.toNat) yb) = mrkB ya yb := rfl
    have e3 : swapB (trE k m (σ ya.thread.toNat) ya) (trE k m (σ yb.thread.toNat) yb) = swapB ya yb := by
      unfold swapB
      rw [h4, ht]
      simp only [beq_self_eq_true]
      rfl
    rw [e1, e2, e3] at h5
    exact h5
  · refine .inr ?_
    unfold cpyB at h5 ⊢
    rw [Bool.and_eq_true, beq_iff_eq] at h5 ⊢
    obtain ⟨h6, h7⟩ := h5
    refine ⟨by rw [← h6]; exact (swI_op k m yb.ins).symm, ?_⟩
    rw [cpy_src h hyb] at h7
    rw [beq_iff_eq] at h7 ⊢
    rcases srcG_lt yb (evsT T 0) b with e | ⟨c, e, hc⟩
    · rw [e, piI_neg] at h7; omega
    · rw [e, piI_nat] at h7
      have := piE_inj h ha hc (by omega)
      rw [e, this]

theorem coh_pi {T T' : List (List Ins)} {σ : Nat → Nat} {k m : Int} (h : Ren T T' σ k m) {a b : Nat} (ha : a < (evsT T 0).length) (hb : b < (evsT T 0).length) : ((piE T T' σ a : Int), (piE T T' σ b : Int)) ∈ allU (pairB (evsT T' 0) cohQ) (evsT T' 0).length → ((a : Int), (b : Int)) ∈ allU (pairB (evsT T 0) cohQ) (evsT T 0).length := by
  obtain ⟨ya, hya⟩ := get_of_lt ha
  obtain ⟨yb, hyb⟩ := get_of_lt hb
  rw [allU_mem, allU_mem, pairB_get hya hyb, pairB_get (ren_ev h hya) (ren_ev h hyb)]
  rintro ⟨_, h2, h3⟩
  unfold cohQ at h3 ⊢
  rw [Bool.and_eq_true, beq_iff_eq] at h3
  have ht := (same_tr h hya hyb).1 h3.1
  refine ⟨hb, (piE_iff h hya hyb ht).1 h2, ?_⟩
  rw [Bool.and_eq_true, beq_iff_eq]
  refine ⟨ht, ?_⟩
  rw [← same_tr_loc hya hyb]
  exact h3.2

theorem any_rangeR {n : Nat} {f : Nat → Bool} (h : (List.range n).any f = true) : ∃ i, i < n ∧ f i = true := by
  obtain ⟨i, h1, h2⟩ := List.any_eq_true.1 h
  exact ⟨i, List.mem_range.1 h1, h2⟩

theorem torn_pi {T T' : List (List Ins)} {σ : Nat → Nat} {k m : Int} (h : Rn T T' σ k m) {x : Exe} (hx : IsEx (evsT T 0) x) (ht : tornQ (torQ (evsT T' 0) (rkX (evsT T' 0) (phiX T T' σ k m x))) (evsT T' 0).length = true) : tornQ (torQ (evsT T 0) (rkX (evsT T 0) x)) (evsT T 0).length = true := by
  unfold tornQ at ht ⊢
  obtain ⟨j', hj', h1⟩ := any_rangeR ht
  obtain ⟨i', hi', h2⟩ := any_rangeR h1
  have hil : i' < (evsT T' 0).length := by omega
  obtain ⟨yi', hyi'⟩ := get_of_lt hil
  obtain ⟨yj', hyj'⟩ := get_of_lt hj'
  -- here
  have hi := piE_lt h.r.symm hil
  have hj := piE_lt h.r.symm hj'
  have ii := piE_inv h.r.symm hil
  have jj := piE_inv h.r.symm hj'
  obtain ⟨yi, hyi⟩ := get_of_lt hi
  obtain ⟨yj, hyj⟩ := get_of_lt hj
  have ei := ren_ev h.r hyi
  have ej := ren_ev h.r hyj
  rw [ii] at ei
  rw [jj] at ej
  unfold torQ at h2
  rw [pairB_get ei ej, Bool.and_eq_true] at h2
  obtain ⟨h3, h4⟩ := h2
  unfold swapB at h3
  simp only [Bool.and_eq_true, beq_iff_eq] at h3
  obtain ⟨⟨⟨t1, t2⟩, t3⟩, t4⟩ := h3
  have tt := (same_tr h.r hyi hyj).1 t1
  have hlt := (piE_iff h.r hyi hyj tt).1 (by rw [ii, jj]; exact hi')
  refine List.any_eq_true.2 ⟨_, List.mem_range.2 hj, List.any_eq_true.2 ⟨_, List.mem_range.2 hlt, ?_⟩⟩
  unfold torQ
  rw [pairB_get hyi hyj, Bool.and_eq_true]
  constructor
  · unfold swapB
    simp only [Bool.and_eq_true, beq_iff_eq]
    exact ⟨⟨⟨tt, t2⟩, t3⟩, t4⟩
  · have r1 := phi_rank h hx hyi (.inl t3)
    have r2 := phi_rank h hx hyj (.inr t4)
    rw [ii] at r1
    rw [jj] at r2
    rw [r1, r2] at h4
    exact h4

/-! sections and Syncs -/
def lzI (l : List Ins) : List (Int × Int) := (thoL 2 (evsI 0 l 0) 0).zip (thoL 3 (evsI 0 l 0) 0)

theorem thoL_shift (kd : Int) (E : List Evt) (i : Nat) : thoL kd E i = (thoL kd E 0).map (· + (i : Int)) := by
  have key : ∀ (E : List Evt) (i j : Nat), thoL kd E (i + j) = (thoL kd E i).map (· + (j : Int)) := by
    intro E
    induction E with
    | nil => intro i j; rfl
    | cons x E ih =>
      intro i j
      have := ih (i + 1) j
      rw [show i + 1 + j = i + j + 1 by omega] at this
      cases hx : x.kind == kd
      · rw [thoL_mis hx, thoL_mis hx, this]
      · rw [thoL_hit hx, thoL_hit hx, this, List.map_cons]
        congr 1
  have := key E 0 i
  rw [Nat.zero_add] at this
  exact this

theorem thoL_I (kd : Int) (a b : Nat) (l : List Ins) (j i : Nat) : thoL kd (evsI a l j) i = thoL kd (evsI b l j) i := by
  have e : evsI a l j = (evsI b l j).map fun y => { y with thread := (a : Int) } := by
    induction l generalizing j with
    | nil => rfl
    | cons x l ih =>
      rw [evsI, evsI, List.map_append, ih]
      congr 1
      unfold evsK
      rw [List.map_map]
      rfl
  rw [e]
  generalize evsI b l j = E
  induction E generalizing i with
  | nil => rfl
  | cons x E ih => simp only [List.map_cons, thoL, ih]

theorem lzI_sw (k m : Int) (l : List Ins) : lzI (l.map (swI k m)) = lzI l := by
  have e : ∀ kd i, thoL kd (evsI 0 (l.map (swI k m)) 0) i = thoL kd (evsI 0 l 0) i := fun kd i => by
    rw [evsI_tr k m 0 0]
    generalize evsI 0 l 0 = E
    induction E generalizing i with
    | nil => rfl
    | cons x E ih => simp only [List.map_cons, thoL, ih]; rfl
  unfold lzI
  rw [e, e]

theorem lz_len {l : List Ins} {j : Nat} (h : nst l j false < 0) (a i o : Nat) : (thoL 2 (evsI a l o) i).length = (thoL 3 (evsI a l o) i).length := by
  rw [thoL_len, thoL_len, cntK_evsI 5 2 kinds_enter, cntK_evsI 6 3 kinds_leave]
  have := nst_count h
  simpa using this

theorem nstF_all {T : List (List Ins)} {i : Nat} (h : nstF T i = none) : ∀ l ∈ T, nst l 0 false < 0 := by
  induction T generalizing i with
  | nil => intro l hl; cases hl
  | cons x T ih =>
    unfold nstF at h
    split at h
    · cases h
    · rename_i hn
      intro l hl
      rcases List.mem_cons.1 hl with rfl | hl
      · omega
      · exact ih h l hl

theorem zip_secs {T : List (List Ins)} (hT : ∀ l ∈ T, nst l 0 false < 0) (o i : Nat) (b e : Int) : (b, e) ∈ (thoL 2 (evsT T o) i).zip (thoL 3 (evsT T o) i) ↔ ∃ (a : Nat) (l : List Ins) (u v : Int), T[a]? = some l ∧ (u, v) ∈ lzI l ∧ b = u + ((i + (evsT (T.take a) o).length : Nat) : Int) ∧ e = v + ((i + (evsT (T.take a) o).length : Nat) : Int) := by
  induction T generalizing o i with
  | nil =>
    constructor
    · intro h; simp [evsT, thoL] at h
    · rintro ⟨a, l, u, v, h, _⟩; simp at h
  | cons x T ih =>
    have ihT := ih (fun l hl => hT l (List.mem_cons_of_mem _ hl)) (o + 1) (i + (evsI o x 0).length)
    rw [evsT, thoL_append, thoL_append, List.zip_append (lz_len (hT x (List.mem_cons_self ..)) o i 0), List.mem_append, ihT]
    have hloc : ∀ p : Int × Int, p ∈ (thoL 2 (evsI o x 0) i).zip (thoL 3 (evsI o x 0) i) ↔ ∃ u v, (u, v) ∈ lzI x ∧ p = (u + (i : Int), v + (i : Int)) := fun p => by
      rw [thoL_I 2 o 0, thoL_I 3 o 0, thoL_shift 2, thoL_shift 3, List.zip_map, List.mem_map]
      constructor
      · rintro ⟨q, hq, rfl⟩; exact ⟨q.1, q.2, hq, rfl⟩
      · rintro ⟨u, v, hq, rfl⟩; exact ⟨(u, v), hq, rfl⟩
    constructor
    · rintro (h | ⟨a, l, u, v, h1, h2, h3, h4⟩)
      · obtain ⟨u, v, h1, h2⟩ := (hloc _).1 h
        cases h2
        exact ⟨0, x, u, v, rfl, h1, by simp [evsT], by simp [evsT]⟩
      · refine ⟨a + 1, l, u, v, by simpa using h1, h2, ?_, ?_⟩
        · rw [h3, List.take_succ_cons, evsT, List.length_append, Nat.add_assoc]
        · rw [h4, List.take_succ_cons, evsT, List.length_append, Nat.add_assoc]
    · rintro ⟨a, l, u, v, h1, h2, h3, h4⟩
      cases a with
      | zero =>
        simp at h1
        subst h1
        refine .inl ((hloc _).2 ⟨u, v, h2, ?_⟩)
        rw [h3, h4]
        simp [evsT]
      | succ a =>
        refine .inr ⟨a, l, u, v, by simpa using h1, h2, ?_, ?_⟩
        · rw [h3, List.take_succ_cons, evsT, List.length_append, Nat.add_assoc]
        · rw [h4, List.take_succ_cons, evsT, List.length_append, Nat.add_assoc]

theorem thoL_in {kd : Int} {E : List Evt} {k : Nat} {y : Evt} (i : Nat) (h : E[k]? = some y) (hk : y.kind = kd) : ((i + k : Nat) : Int) ∈ thoL kd E i := by
  induction E generalizing i k with
  | nil => simp at h
  | cons x E ih =>
    cases k with
    | zero =>
      simp at h
      subst h
      rw [thoL_hit (by simp [hk])]
      exact List.mem_cons_self ..
    | succ k =>
      have := ih (i + 1) (by simpa using h)
      rw [show i + 1 + k = i + (k + 1) by omega] at this
      cases hx : x.kind == kd
      · rw [thoL_mis hx]; exact this
      · rw [thoL_hit hx]; exact List.mem_cons_of_mem _ this

end Go.Proofs.Ytomijmikkbhgmab

namespace Go.Proofs.Ytomijmikkbhgmab

/-! one ahead of the other in a list -/
theorem sub2_new {R N : List Nat} {a b : Nat} (ha : a ∈ R) (hb : b ∈ N) : [a, b].Sublist (R ++ N) := by
  have h1 : [a].Sublist R := List.singleton_sublist.2 ha
  have h2 : [b].Sublist N := List.singleton_sublist.2 hb
  exact h1.append h2
theorem sub2_old {R N : List Nat} {a b : Nat} (h : [a, b].Sublist (R ++ N)) (hb : b ∉ N) : [a, b].Sublist R := by
  obtain ⟨l1, l2, e, h1, h2⟩ := List.sublist_append_iff.1 h
  match l1, l2, e with
  | [], l2, e =>
    simp at e
    subst e
    exact absurd (h2.subset (by simp)) hb
  | [x], l2, e =>
    simp at e
    obtain ⟨rfl, rfl⟩ := e
    exact absurd (h2.subset (by simp)) hb
  | [x, y], [], e =>
    simp at e
    obtain ⟨rfl, rfl⟩ := e
    exact h1
  | [x, y], z :: l2, e => simp at e
  | x :: y :: z :: l1, l2, e => simp at e
theorem sub2_mem {R : List Nat} {a b : Nat} (h : [a, b].Sublist R) : a ∈ R ∧ b ∈ R := ⟨h.subset (by simp), h.subset (by simp)⟩
theorem sub2_tot {R : List Nat} {a b : Nat} (ha : a ∈ R) (hb : b ∈ R) (hne : a ≠ b) : [a, b].Sublist R ∨ [b, a].Sublist R := by
  induction R with
  | nil => cases ha
  | cons x R ih =>
    rcases List.mem_cons.1 ha with rfl | ha'
    · rcases List.mem_cons.1 hb with rfl | hb'
      · exact absurd rfl hne
      · exact .inl (List.cons_sublist_cons.2 (List.singleton_sublist.2 hb'))
    · rcases List.mem_cons.1 hb with rfl | hb'
      · exact .inr (List.cons_sublist_cons.2 (List.singleton_sublist.2 ha'))
      · rcases ih ha' hb' with h | h
        · exact .inl (h.cons x)
        · exact .inr (h.cons x)
theorem sub2_idx {R : List Nat} (hn : R.Nodup) {a b : Nat} (h : [a, b].Sublist R) : R.idxOf a < R.idxOf b := by
  induction R with
  | nil => simp at h
  | cons x R ih =>
    obtain ⟨h1, h2⟩ := List.nodup_cons.1 hn
    rw [List.idxOf_cons, List.idxOf_cons]
    cases h with
    | cons _ h' =>
      obtain ⟨ma, mb⟩ := sub2_mem h'
      have ea : (x == a) = false := by simp; rintro rfl; exact h1 ma
      have eb : (x == b) = false := by simp; rintro rfl; exact h1 mb
      rw [ea, eb]
      simp only [cond_false]
      have := ih h2 h'
      omega
    | cons_cons _ h' =>
      have mb : b ∈ R := h'.subset (by simp)
      have eb : (a == b) = false := by simp; rintro rfl; exact h1 mb
      rw [eb]
      simp

/-! who is in a section -/
theorem insd_zero (l : List Ins) (b : Bool) : insd l b 0 = b := by
  cases l with
  | nil => rfl
  | cons x l => rw [insd, if_pos rfl]

theorem evc_cons {x : Ins} {l : List Ins} {q : Nat} (hq : 2 ≤ q) : evc (x :: l) q = (kindsOf x.op).length + evc l (q - 2) := by
  unfold evc
  rw [show q / 2 = (q - 2) / 2 + 1 by omega, List.take_succ_cons, evsI, List.length_append, show q % 2 = (q - 2) % 2 by omega]
  have : (evsK 0 0 x (kindsOf x.op)).length = (kindsOf x.op).length := by unfold evsK; simp
  rw [this, evsI_len0 0 0 _ (0 + 1) 0]
  omega

theorem thoL_cons (kd : Int) (x : Ins) (l : List Ins) : thoL kd (evsI 0 (x :: l) 0) 0 = thoL kd (evsK 0 0 x (kindsOf x.op)) 0 ++ (thoL kd (evsI 0 l 0) 0).map (· + ((kindsOf x.op).length : Int)) := by
  have e0 : (evsK 0 0 x (kindsOf x.op)).length = (kindsOf x.op).length := by unfold evsK; simp
  -- places do not matter
  have : ∀ (l : List Ins) (j j' i : Nat), thoL kd (evsI 0 l j) i = thoL kd (evsI 0 l j') i := by
    intro l
    induction l with
    | nil => intros; rfl
    | cons y l ih =>
      intro j j' i
      rw [evsI, evsI, thoL_append, thoL_append]
      have e1 : thoL kd (evsK 0 j y (kindsOf y.op)) i = thoL kd (evsK 0 j' y (kindsOf y.op)) i := by
        unfold evsK
        generalize kindsOf y.op = ks
        induction ks generalizing i with
        | nil => rfl
        | cons k ks ih2 => simp only [List.map_cons, thoL, ih2]
      have e2 : (evsK 0 j y (kindsOf y.op)).length = (evsK 0 j' y (kindsOf y.op)).length := by unfold evsK; simp
      rw [e1, e2, ih (j + 1) (j' + 1)]
  rw [evsI, thoL_append, e0, thoL_shift kd (evsI 0 l (0 + 1)) (0 + (kindsOf x.op).length), this l (0 + 1) 0 0, Nat.zero_add]

theorem thoK_none {kd : Int} {ks : List Int} (h : kd ∉ ks) (x : Ins) (i j t : Nat) : thoL kd (evsK i j x ks) t = [] := by
  unfold evsK
  induction ks generalizing t with
  | nil => rfl
  | cons k ks ih =>
    rw [List.map_cons, thoL_mis (by simp; rintro rfl; exact h (List.mem_cons_self ..))]
    exact ih (fun hm => h (List.mem_cons_of_mem _ hm)) (t + 1)

theorem zip_shift {A B : List Int} {d u v : Int} (h : (u, v) ∈ (A.map (· + d)).zip (B.map (· + d))) : (u - d, v - d) ∈ A.zip B := by
  rw [List.zip_map, List.mem_map] at h
  obtain ⟨⟨a, b⟩, hq, e⟩ := h
  simp only [Prod.map, Prod.mk.injEq] at e
  obtain ⟨rfl, rfl⟩ := e
  rw [show a + d - d = a by omega, show b + d - d = b by omega]
  exact hq

/-- An instruction in the midst of which a thread stands is a Sync. -/
def OddOk (l : List Ins) (q : Nat) : Prop := q % 2 = 1 → ∃ x, l[q / 2]? = some x ∧ x.op = 7

theorem insd_open (l : List Ins) : (∀ (j q : Nat), nst l j false < 0 → OddOk l q → ∀ u v : Int, (u, v) ∈ (thoL 2 (evsI 0 l 0) 0).zip (thoL 3 (evsI 0 l 0) 0) → u < (evc l q : Int) → (evc l q : Int) ≤ v → insd l false q = true) ∧
    (∀ (j q : Nat), nst l j true < 0 → OddOk l q → (∀ u v : Int, (u, v) ∈ (thoL 2 (evsI 0 l 0) 0).zip (thoL 3 (evsI 0 l 0) 0).tail → u < (evc l q : Int) → (evc l q : Int) ≤ v → insd l true q = true) ∧ ∀ v, (thoL 3 (evsI 0 l 0) 0).head? = some v → (evc l q : Int) ≤ v → insd l true q = true) := by
  induction l with
  | nil =>
    refine ⟨fun j q _ _ u v h => by simp [evsI, thoL] at h, fun j q _ _ => ⟨fun u v h => by simp [evsI, thoL] at h, fun v h => by simp [evsI, thoL] at h⟩⟩
  | cons x l ih =>
    obtain ⟨ihF, ihT⟩ := ih
    have hodd : ∀ q, 2 ≤ q → OddOk (x :: l) q → OddOk l (q - 2) := fun q hq h ho => by
      obtain ⟨y, hy, h7⟩ := h (by omega)
      rw [show q / 2 = (q - 2) / 2 + 1 by omega] at hy
      exact ⟨y, by simpa using hy, h7⟩
    have hone : OddOk (x :: l) 1 → x.op = 7 := fun h => by
      obtain ⟨y, hy, h7⟩ := h rfl
      simp at hy
      rw [hy]; exact h7
    have hnn : ∀ (kd : Int) (a : Int), a ∈ thoL kd (evsI 0 l 0) 0 → 0 ≤ a := fun kd a ha => by
      obtain ⟨k, _, _, _, e⟩ := thoL_mem ha
      omega
    have insq : ∀ b q, 2 ≤ q → insd (x :: l) b q = insd l (if x.op == 5 then true else if x.op == 6 then false else b) (q - 2) := fun b q hq => by rw [insd, if_neg (by omega)]
    rw [thoL_cons 2, thoL_cons 3]
    by_cases h5 : x.op = 5
    · -- Enter
      have k2 : thoL 2 (evsK 0 0 x (kindsOf x.op)) 0 = [0] := by rw [h5]; rfl
      have k3 : thoL 3 (evsK 0 0 x (kindsOf x.op)) 0 = [] := by rw [h5]; rfl
      have kl : (kindsOf x.op).length = 1 := by rw [h5]; rfl
      rw [k2, k3, kl]
      refine ⟨fun j q hn ho u v h hu hv => ?_, fun j q hn => ?_⟩
      · have hn' : nst l (j + 1) true < 0 := by rw [nst, h5] at hn; simpa using hn
        by_cases hq : 2 ≤ q
        · rw [evc_cons hq, kl] at hu hv
          rw [insq _ _ hq, h5]
          obtain ⟨i1, i2⟩ := ihT (j + 1) (q - 2) hn' (hodd q hq ho)
          show insd l true (q - 2) = true
          cases hE : thoL 3 (evsI 0 l 0) 0 with
          | nil => rw [hE] at h; simp at h
          | cons e0 E3 =>
            rw [hE] at h i1 i2
            simp only [List.singleton_append, List.nil_append, List.map_cons, List.zip_cons_cons, List.mem_cons] at h
            rcases h with h | h
            · cases h
              exact i2 e0 rfl (by push_cast at hv; omega)
            · have := zip_shift h
              exact i1 _ _ this (by push_cast at hu; omega) (by push_cast at hv; omega)
        · exfalso
          have hq1 : q = 0 ∨ q = 1 := by omega
          rcases hq1 with rfl | rfl
          · have : evc (x :: l) 0 = 0 := by simp [evc, evsI]
            rw [this] at hu
            have hu0 := (List.of_mem_zip h).1
            simp only [List.singleton_append, List.mem_cons, List.mem_map] at hu0
            rcases hu0 with rfl | ⟨a, ha, rfl⟩
            · omega
            · have := hnn 2 a ha; omega
          · have := hone ho; omega
      · exfalso
        rw [nst, h5] at hn
        simp at hn
        omega
    · by_cases h6 : x.op = 6
      · -- Leave
        have k2 : thoL 2 (evsK 0 0 x (kindsOf x.op)) 0 = [] := by rw [h6]; rfl
        have k3 : thoL 3 (evsK 0 0 x (kindsOf x.op)) 0 = [0] := by rw [h6]; rfl
        have kl : (kindsOf x.op).length = 1 := by rw [h6]; rfl
        rw [k2, k3, kl]
        refine ⟨fun j q hn => ?_, fun j q hn ho => ⟨fun u v h hu hv => ?_, fun v h hv => ?_⟩⟩
        · exfalso
          rw [nst, h6] at hn
          simp at hn
          omega
        · have hn' : nst l (j + 1) false < 0 := by rw [nst, h6] at hn; simpa using hn
          have h' := zip_shift (show (u, v) ∈ ((thoL 2 (evsI 0 l 0) 0).map (· + (1 : Int))).zip ((thoL 3 (evsI 0 l 0) 0).map (· + (1 : Int))) from h)
          by_cases hq : 2 ≤ q
          · rw [evc_cons hq, kl] at hu hv
            rw [insq _ _ hq, h6]
            exact ihF (j + 1) (q - 2) hn' (hodd q hq ho) _ _ h' (by push_cast at hu; omega) (by push_cast at hv; omega)
          · exfalso
            have hq1 : q = 0 ∨ q = 1 := by omega
            rcases hq1 with rfl | rfl
            · have : evc (x :: l) 0 = 0 := by simp [evc, evsI]
              rw [this] at hu
              have := hnn 2 _ (List.of_mem_zip h').1
              omega
            · have := hone ho; omega
        · have hv0 : v = 0 := by simpa using h.symm
          by_cases hq : 2 ≤ q
          · exfalso
            rw [evc_cons hq, kl] at hv
            push_cast at hv
            omega
          · have hq1 : q = 0 ∨ q = 1 := by omega
            rcases hq1 with rfl | rfl
            · exact insd_zero _ _
            · have := hone ho; omega
      · -- neither
        have hk2 : (2 : Int) ∉ kindsOf x.op := by
          unfold kindsOf
          have e5 : (x.op == 5) = false := by simpa using h5
          have e6 : (x.op == 6) = false := by simpa using h6
          rw [e5, e6]
          repeat' split
          all_goals simp
          all_goals contradiction
        have hk3 : (3 : Int) ∉ kindsOf x.op := by
          unfold kindsOf
          have e5 : (x.op == 5) = false := by simpa using h5
          have e6 : (x.op == 6) = false := by simpa using h6
          rw [e5, e6]
          repeat' split
          all_goals simp
          all_goals contradiction
        rw [thoK_none hk2, thoK_none hk3, List.nil_append, List.nil_append]
        have hflag : ∀ b : Bool, (if x.op == 5 then true else if x.op == 6 then false else b) = b := fun b => by rw [if_neg (by simp [h5]), if_neg (by simp [h6])]
        have hnx : ∀ j b, nst (x :: l) j b < 0 → nst l (j + 1) b < 0 := fun j b hn => by
          rw [nst_cons7] at hn
          rw [if_neg (by simp [h5])] at hn
          by_cases h7 : x.op = 7
          · rw [if_pos (by simp [h7])] at hn
            cases b
            · simpa using hn
            · simp at hn; omega
          · rw [if_neg (by simp [h7]), if_neg (by simp [h6])] at hn
            exact hn
        have hevc1 : OddOk (x :: l) 1 → evc (x :: l) 1 = 1 ∧ (kindsOf x.op).length = 2 ∧ ∀ j, ¬ nst (x :: l) j true < 0 := fun ho => by
          have h7 := hone ho
          refine ⟨by simp [evc, evsI], by rw [h7]; rfl, fun j hn => ?_⟩
          rw [nst, h7] at hn
          simp at hn
          omega
        refine ⟨fun j q hn ho u v h hu hv => ?_, fun j q hn ho => ⟨fun u v h hu hv => ?_, fun v h hv => ?_⟩⟩
        · have h' := zip_shift h
          by_cases hq : 2 ≤ q
          · rw [evc_cons hq] at hu hv
            rw [insq _ _ hq, hflag]
            exact ihF (j + 1) (q - 2) (hnx j false hn) (hodd q hq ho) _ _ h' (by push_cast at hu; omega) (by push_cast at hv; omega)
          · exfalso
            have h0 := hnn 2 _ (List.of_mem_zip h').1
            have hq1 : q = 0 ∨ q = 1 := by omega
            rcases hq1 with rfl | rfl
            · have : evc (x :: l) 0 = 0 := by simp [evc, evsI]
              rw [this] at hu
              omega
            · obtain ⟨e1, e2, _⟩ := hevc1 ho
              rw [e1] at hu
              rw [e2] at h0
              push_cast at hu h0
              omega
        · rw [← List.map_tail] at h
          have h' := zip_shift h
          by_cases hq : 2 ≤ q
          · rw [evc_cons hq] at hu hv
            rw [insq _ _ hq, hflag]
            exact (ihT (j + 1) (q - 2) (hnx j true hn) (hodd q hq ho)).1 _ _ h' (by push_cast at hu; omega) (by push_cast at hv; omega)
          · have hq1 : q = 0 ∨ q = 1 := by omega
            rcases hq1 with rfl | rfl
            · exact insd_zero _ _
            · exact absurd hn ((hevc1 ho).2.2 j)
        · by_cases hq : 2 ≤ q
          · rw [evc_cons hq] at hv
            rw [insq _ _ hq, hflag]
            rw [List.head?_map] at h
            cases hE : (thoL 3 (evsI 0 l 0) 0).head? with
            | none => rw [hE] at h; cases h
            | some v0 =>
              rw [hE] at h
              have hv0 : v0 + ((kindsOf x.op).length : Int) = v := by simpa using h
              exact (ihT (j + 1) (q - 2) (hnx j true hn) (hodd q hq ho)).2 v0 hE (by push_cast at hv; omega)
          · have hq1 : q = 0 ∨ q = 1 := by omega
            rcases hq1 with rfl | rfl
            · exact insd_zero _ _
            · exact absurd hn ((hevc1 ho).2.2 j)

theorem insd_leave {l : List Ins} {q : Nat} {x : Ins} (hx : l[q / 2]? = some x) (h6 : x.op = 6) (hq : q % 2 = 0) (b : Bool) : insd l b (q + 2) = false := by
  induction l generalizing q b with
  | nil => simp at hx
  | cons y l ih =>
    rw [insd, if_neg (by omega), show q + 2 - 2 = q by omega]
    by_cases h0 : q = 0
    · subst h0
      simp at hx
      subst hx
      rw [insd_zero, if_neg (by rw [h6]; decide), if_pos (by rw [h6]; decide)]
    · obtain ⟨p, rfl⟩ : ∃ p, q = p + 2 := ⟨q - 2, by omega⟩
      rw [show (p + 2) / 2 = p / 2 + 1 by omega] at hx
      exact ih (by simpa using hx) (by omega) _

end Go.Proofs.Ytomijmikkbhgmab

namespace Go.Proofs.Ytomijmikkbhgmab

theorem ren_pi {T T' : List (List Ins)} {σ : Nat → Nat} {k m : Int} (h : Ren T T' σ k m) : (∀ a, a < (evsT T 0).length → piE T T' σ a < (evsT T 0).length ∧ piE T' T σ (piE T T' σ a) = a) ∧ ∀ a, a < (evsT T 0).length → piE T' T σ a < (evsT T 0).length ∧ piE T T' σ (piE T' T σ a) = a := by
  have hl := ren_len h
  refine ⟨fun a ha => ⟨by have := piE_lt h ha; omega, piE_inv h ha⟩, fun a ha => ⟨?_, piE_inv h.symm (by omega)⟩⟩
  exact piE_lt h.symm (by omega)

theorem mt_mem {E : List Evt} {m : Mt} : m ∈ mtL (thoL 2 E 0) (thoL 3 E 0) (thoL 4 E 0) ↔ (m.b, m.e) ∈ (thoL 2 E 0).zip (thoL 3 E 0) ∧ m.s ∈ thoL 4 E 0 ∧ m.f = m.s + 1 := by
  unfold mtL
  rw [List.mem_flatMap]
  constructor
  · rintro ⟨p, hp, hm⟩
    obtain ⟨q, hq, rfl⟩ := List.mem_map.1 hm
    exact ⟨hp, hq, rfl⟩
  · rintro ⟨h1, h2, h3⟩
    refine ⟨(m.b, m.e), h1, List.mem_map.2 ⟨m.s, h2, ?_⟩⟩
    cases m
    simp only at h3
    rw [h3]

def mtP (T T' : List (List Ins)) (σ : Nat → Nat) (m : Mt) : Mt := ⟨piI T T' σ m.b, piI T T' σ m.e, piI T T' σ m.s, piI T T' σ m.f⟩

theorem mt_pi {T T' : List (List Ins)} {σ : Nat → Nat} {k m : Int} (h : Ren T T' σ k m) (hn : ∀ l ∈ T, nst l 0 false < 0) (hn' : ∀ l ∈ T', nst l 0 false < 0) {x : Mt} (hx : x ∈ mtL (thoL 2 (evsT T 0) 0) (thoL 3 (evsT T 0) 0) (thoL 4 (evsT T 0) 0)) : mtP T T' σ x ∈ mtL (thoL 2 (evsT T' 0) 0) (thoL 3 (evsT T' 0) 0) (thoL 4 (evsT T' 0) 0) := by
  rw [mt_mem] at hx ⊢
  obtain ⟨h1, h2, h3⟩ := hx
  -- the section
  have hsec : (piI T T' σ x.b, piI T T' σ x.e) ∈ (thoL 2 (evsT T' 0) 0).zip (thoL 3 (evsT T' 0) 0) := by
    obtain ⟨a, l, u, v, e1, e2, e3, e4⟩ := (zip_secs hn 0 0 _ _).1 h1
    rw [Nat.zero_add] at e3 e4
    have hu : ∃ (r : Nat) (y : Evt), (evsI a l 0)[r]? = some y ∧ u = (r : Int) := by
      obtain ⟨r, y, q1, _, q3⟩ := thoL_mem (kd := 2) (E := evsI a l 0) (i := 0) (a := u) (by rw [thoL_I 2 a 0]; exact (List.of_mem_zip e2).1)
      exact ⟨r, y, q1, by rw [q3]; simp⟩
    have hv : ∃ (r : Nat) (y : Evt), (evsI a l 0)[r]? = some y ∧ v = (r : Int) := by
      obtain ⟨r, y, q1, _, q3⟩ := thoL_mem (kd := 3) (E := evsI a l 0) (i := 0) (a := v) (by rw [thoL_I 3 a 0]; exact (List.of_mem_zip e2).2)
      exact ⟨r, y, q1, by rw [q3]; simp⟩
    obtain ⟨r, y, hy, rfl⟩ := hu
    obtain ⟨r', y', hy', rfl⟩ := hv
    have eb : x.b = ((offT T a + r : Nat) : Int) := by rw [e3]; unfold offT; omega
    have ee : x.e = ((offT T a + r' : Nat) : Int) := by rw [e4]; unfold offT; omega
    rw [eb, ee, piI_nat, piI_nat, piE_at e1 hy, piE_at e1 hy']
    refine (zip_secs hn' 0 0 _ _).2 ⟨σ a, _, (r : Int), (r' : Int), h.row a l e1, by rw [lzI_sw]; exact e2, ?_, ?_⟩
    · rw [Nat.zero_add]; unfold offT; omega
    · rw [Nat.zero_add]; unfold offT; omega
  refine ⟨hsec, ?_, ?_⟩
  · obtain ⟨s, y, q1, q2, q3⟩ := thoL_mem h2
    rw [Nat.zero_add] at q3
    show piI T T' σ x.s ∈ _
    rw [q3, piI_nat]
    have := thoL_in 0 (ren_ev h q1) q2
    rw [Nat.zero_add] at this
    exact this
  · obtain ⟨s, y, q1, q2, q3⟩ := thoL_mem h2
    rw [Nat.zero_add] at q3
    -- the Finish stands right behind the Start
    have hf : x.f ∈ thoL 5 (evsT T 0) 0 := by rw [done_T]; exact List.mem_map.2 ⟨x.s, h2, h3.symm⟩
    obtain ⟨f, z, f1, f2, f3⟩ := thoL_mem hf
    rw [Nat.zero_add] at f3
    have hfs : f = s + 1 := by omega
    subst hfs
    show piI T T' σ x.f = piI T T' σ x.s + 1
    rw [f3, q3, piI_nat, piI_nat]
    -- they are of one thread
    obtain ⟨a, l, r, a1, a2, a3, a4⟩ := ev_find q1
    have hs' : ((s : Nat) : Int) ∈ thoL 4 (evsT T 0) 0 := by rw [← q3]; exact h2
    have hth : z.thread = y.thread := by
      have hl4 : ((r : Nat) : Int) ∈ thoL 4 (evsI a l 0) 0 := by
        have := thoL_in 0 a2 q2
        rw [Nat.zero_add] at this
        exact this
      have hl5 : ((r : Nat) : Int) + 1 ∈ thoL 5 (evsI a l 0) 0 := by rw [done_I]; exact List.mem_map.2 ⟨_, hl4, rfl⟩
      obtain ⟨r', z', b1, _, b3⟩ := thoL_mem hl5
      rw [Nat.zero_add] at b3
      have : r' = r + 1 := by omega
      subst this
      have := ev_at a1 b1
      rw [← Nat.add_assoc, ← a3, f1] at this
      cases this
      rw [evsI_thread (List.mem_of_getElem? b1), a4]
    obtain ⟨a', l', r', a1', a2', a3', a4'⟩ := ev_find f1
    have haa : a' = a := by rw [a4', a4] at hth; omega
    subst haa
    rw [a1] at a1'
    cases a1'
    have hrr : r' = r + 1 := by omega
    subst hrr
    rw [a3', piE_at a1 a2', a3, piE_at a1 a2]
    omega

theorem parts_pi {T T' : List (List Ins)} {σ : Nat → Nat} {k m : Int} (h : Ren T T' σ k m) (hn : ∀ l ∈ T, nst l 0 false < 0) (hn' : ∀ l ∈ T', nst l 0 false < 0) {A A' : List (Int × Int)} (hA : ∀ a b : Nat, a < (evsT T 0).length → b < (evsT T 0).length → ((a : Int), (b : Int)) ∈ A' → ((piE T' T σ a : Int), (piE T' T σ b : Int)) ∈ A)
    (hP : Parts (evsT T 0).length (mtL (thoL 2 (evsT T 0) 0) (thoL 3 (evsT T 0) 0) (thoL 4 (evsT T 0) 0)) A) : Parts (evsT T 0).length (mtL (thoL 2 (evsT T' 0) 0) (thoL 3 (evsT T' 0) 0) (thoL 4 (evsT T' 0) 0)) A' := by
  rw [parts_iff] at hP ⊢
  obtain ⟨β, hC⟩ := hP
  -- the same choice
  have hex : ∀ i : Nat, ∃ b : Bool, ∀ x, (mtL (thoL 2 (evsT T' 0) 0) (thoL 3 (evsT T' 0) 0) (thoL 4 (evsT T' 0) 0))[i]? = some x → pick b (mtP T' T σ x) ∈ chS β (mtL (thoL 2 (evsT T 0) 0) (thoL 3 (evsT T 0) 0) (thoL 4 (evsT T 0) 0)) := fun i => by
    cases hi : (mtL (thoL 2 (evsT T' 0) 0) (thoL 3 (evsT T' 0) 0) (thoL 4 (evsT T' 0) 0))[i]? with
    | none => exact ⟨false, fun x hx => by cases hx⟩
    | some x =>
      have hm := mt_pi h.symm hn' hn (List.mem_of_getElem? hi)
      obtain ⟨c, hc⟩ := List.getElem?_of_mem hm
      exact ⟨β c, fun y hy => by cases hy; exact List.mem_of_getElem? (chS_get _ β c _ hc)⟩
  refine ⟨fun i => Classical.choose (hex i), fun hcyc => hC ?_⟩
  obtain ⟨p1, p2⟩ := ren_pi h
  refine cyc_pi p1 p2 (fun a b ha hb hab => ?_) hcyc
  rcases List.mem_append.1 hab with hab | hab
  · exact List.mem_append_left _ (hA a b ha hb hab)
  · refine List.mem_append_right _ ?_
    obtain ⟨i, hi⟩ := List.getElem?_of_mem hab
    have hil : i < (mtL (thoL 2 (evsT T' 0) 0) (thoL 3 (evsT T' 0) 0) (thoL 4 (evsT T' 0) 0)).length := by
      have := (List.getElem?_eq_some_iff.1 hi).1
      rw [chS_len] at this
      exact this
    obtain ⟨x, hx⟩ := get_of_lt hil
    rw [chS_get _ _ i x hx] at hi
    have hpk := Classical.choose_spec (hex i) x hx
    have hi' := Option.some.inj hi
    generalize Classical.choose (hex i) = bb at hpk hi'
    unfold pick at hpk hi'
    cases bb
    · simp only [Bool.false_eq_true, if_false] at hpk hi'
      have e1 : x.e = (a : Int) := congrArg (·.1) hi'
      have e2 : x.f = (b : Int) := congrArg (·.2) hi'
      unfold mtP at hpk
      rw [e1, e2, piI_nat, piI_nat] at hpk
      exact hpk
    · simp only [if_true] at hpk hi'
      have e1 : x.s = (a : Int) := congrArg (·.1) hi'
      have e2 : x.b = (b : Int) := congrArg (·.2) hi'
      unfold mtP at hpk
      rw [e1, e2, piI_nat, piI_nat] at hpk
      exact hpk

/-- Allowed here, allowed there. -/
theorem alw_pi {T T' : List (List Ins)} {σ : Nat → Nat} {k m : Int} (h : Rn T T' σ k m) (hn : ∀ l ∈ T, nst l 0 false < 0) (hn' : ∀ l ∈ T', nst l 0 false < 0) {x : Exe} (hx : IsEx (evsT T 0) x) (ha : Alw T (evsT T 0) x) : Alw T' (evsT T' 0) (phiX T T' σ k m x) := by
  have hx' := phi_isEx h hx
  obtain ⟨j1, j2, j3, _⟩ := judge_same' (T := T) (ms := []) rfl h.f.el h.f.locs hx
  have j4 := fun ms => (judge_same' (T := T) (ms := ms) rfl h.f.el h.f.locs hx).2.2.2
  obtain ⟨i1, i2, i3, _⟩ := judge_same' (T := T') (ms := []) rfl h.f'.el h.f'.locs hx'
  have i4 := fun ms => (judge_same' (T := T') (ms := ms) rfl h.f'.el h.f'.locs hx').2.2.2
  have hl := ren_len h.r
  obtain ⟨p1, p2⟩ := ren_pi h.r
  have hal := alB_iff.2 ha
  unfold alB at hal
  have h0 : ∀ n A, (!cycB n A) = true ↔ ¬ Cyc n A := fun n A => by rw [← cycB_iff (n := n) (A := A)]; simp
  simp only [Bool.and_eq_true, h0, partsB_iff, Bool.not_eq_true'] at hal
  obtain ⟨⟨⟨a1, a2⟩, a3⟩, a4⟩ := hal
  have ex : ∀ a b : Nat, a < (evsT T 0).length → b < (evsT T 0).length → ((a : Int), (b : Int)) ∈ exQ (evsT T' 0) (phiX T T' σ k m x) → ((piE T' T σ a : Int), (piE T' T σ b : Int)) ∈ exQ (evsT T 0) x := fun a b ha hb hab => by
    rw [← exQ_pi h hx (p2 a ha).1 (p2 b hb).1, (p2 a ha).2, (p2 b hb).2]
    exact hab
  have kq : ∀ a b : Nat, a < (evsT T 0).length → b < (evsT T 0).length → ((a : Int), (b : Int)) ∈ kepQ T' (evsT T' 0) (phiX T T' σ k m x) → ((piE T' T σ a : Int), (piE T' T σ b : Int)) ∈ kepQ T (evsT T 0) x := fun a b ha hb hab => by
    rcases List.mem_append.1 hab with q | q
    · exact List.mem_append_left _ (ex a b ha hb q)
    · refine List.mem_append_right _ (kep_pi h.r (p2 a ha).1 (p2 b hb).1 ?_)
      rw [(p2 a ha).2, (p2 b hb).2]
      exact q
  refine alB_iff.1 ?_
  unfold alB
  simp only [Bool.and_eq_true, h0, partsB_iff, Bool.not_eq_true']
  refine ⟨⟨⟨fun hc => a1 ?_, ?_⟩, fun hc => a3 ?_⟩, ?_⟩
  · rw [← j1]
    rw [← i1, hl] at hc
    refine cyc_pi p1 p2 (fun a b ha hb hab => ?_) hc
    rcases List.mem_append.1 hab with q | q
    · exact List.mem_append_left _ (ex a b ha hb q)
    · refine List.mem_append_right _ (coh_pi h.r (p2 a ha).1 (p2 b hb).1 ?_)
      rw [(p2 a ha).2, (p2 b hb).2]
      exact q
  · rw [← i2]
    rw [← j2] at a2
    cases ht : tornQ (torQ (evsT T' 0) (rankG (evsT T' 0).length (srcL (evsT T' 0) (phiX T T' σ k m x).from') (phiX T T' σ k m x).order)) (evsT T' 0).length
    · rfl
    · rw [torn_pi h hx ht] at a2
      cases a2
  · rw [← j3]
    rw [← i3, hl] at hc
    exact cyc_pi p1 p2 kq hc
  · have b4 := Classical.byContradiction fun hh => ((j4 _).1 hh) a4
    refine Classical.byContradiction fun hh => ?_
    refine ((i4 _).2 hh) ?_
    rw [hl]
    exact parts_pi h.r hn hn' kq b4

end Go.Proofs.Ytomijmikkbhgmab

namespace Go.Proofs.Ytomijmikkbhgmab

/-- A section of thread k: its Begin and its End. -/
def SecAt (T : List (List Ins)) (k b e : Nat) : Prop := ∃ (l : List Ins) (u v : Nat) (yb ye : Evt), (((u : Nat) : Int), ((v : Nat) : Int)) ∈ lzI l ∧ At T b k u l yb ∧ yb.kind = 2 ∧ At T e k v l ye ∧ ye.kind = 3
/-- A Sync of thread i: its Start and its Finish. -/
def SynAt (T : List (List Ins)) (i s f : Nat) : Prop := ∃ (l : List Ins) (r : Nat) (ys yf : Evt), At T s i r l ys ∧ ys.kind = 4 ∧ At T f i (r + 1) l yf ∧ yf.kind = 5

structure SecOkR (T : List (List Ins)) (R : List Nat) (M : Mo) : Prop where
  met : ∀ k b e i s f, SecAt T k b e → SynAt T i s f → s ∈ R → f ∉ R → [b, s].Sublist R → e ∉ R → M.wt i k = true
  fin : ∀ k b e i s f, SecAt T k b e → SynAt T i s f → f ∈ R → [e, f].Sublist R ∨ b ∉ R ∨ [s, b].Sublist R

theorem At.kind_ne {T : List (List Ins)} {e e' i i' r r' : Nat} {l l' : List Ins} {y y' : Evt} (h : At T e i r l y) (h' : At T e' i' r' l' y') (hk : y.kind ≠ y'.kind) : e ≠ e' := fun q => by
  subst q
  exact hk (by rw [(h.one h').2.2.2])

theorem kinds_no {x : Ins} (h7 : x.op ≠ 7) : (4 : Int) ∉ kindsOf x.op ∧ (5 : Int) ∉ kindsOf x.op := by
  have e7 : (x.op == 7) = false := by simpa using h7
  unfold kindsOf
  rw [e7]
  constructor
  · repeat' split
    all_goals simp
    all_goals contradiction
  · repeat' split
    all_goals simp
    all_goals contradiction

theorem secOk_step {T : List (List Ins)} (hnst : ∀ l ∈ T, nst l 0 false < 0) {R : List Nat} {M M' : Mo} {i0 : Nat} {l0 : List Ins} {x : Ins} (h : RunOk T R M) (hS : SecOkR T R M) (hl : T[i0]? = some l0) (hx : l0[M.pc i0 / 2]? = some x) (hk : StepK T M i0 l0 x M') : SecOkR T (R ++ List.range' (offT T i0 + evc l0 (M.pc i0)) (evc l0 (M'.pc i0) - evc l0 (M.pc i0))) M' := by
  have h' := runOk_step h hl hx hk
  obtain ⟨e1, e2, e3⟩ := step_evc h.pcs hl hx hk
  have hnew : ∀ e i r l y, At T e i r l y → e ∈ List.range' (offT T i0 + evc l0 (M.pc i0)) (evc l0 (M'.pc i0) - evc l0 (M.pc i0)) → i = i0 ∧ l = l0 ∧ evc l0 (M.pc i0) ≤ r ∧ r < evc l0 (M'.pc i0) ∧ (kindsOf x.op)[r - (evsI 0 (l0.take (M.pc i0 / 2)) 0).length]? = some y.kind := fun e i r l y ha he => by
    rw [List.mem_range'_1] at he
    obtain ⟨y', q1, _, _, q3⟩ := step_new h.pcs hl hx hk (r := e - offT T i0) (by omega) (by omega)
    have ha' : At T e i0 (e - offT T i0) l0 y' := ⟨hl, q1, by omega⟩
    obtain ⟨rfl, rfl, rfl, rfl⟩ := ha.one ha'
    exact ⟨rfl, rfl, by omega, by omega, q3⟩
  generalize hN : List.range' (offT T i0 + evc l0 (M.pc i0)) (evc l0 (M'.pc i0) - evc l0 (M.pc i0)) = N at *
  -- an open section
  have hopen : ∀ k b e (M2 : Mo) (R2 : List Nat), RunOk T R2 M2 → SecAt T k b e → b ∈ R2 → e ∉ R2 → inK T M2 k = true := fun k b e M2 R2 hr hs hb he => by
    obtain ⟨l, u, v, yb, ye, q1, q2, _, q4, _⟩ := hs
    have hu := (hr.mem _ _ _ _ _ q2).1 hb
    have hv : ¬ v < evc l (M2.pc k) := fun q => he ((hr.mem _ _ _ _ _ q4).2 q)
    unfold inK
    rw [q2.1]
    exact (insd_open l).1 0 (M2.pc k) (hnst l (List.mem_of_getElem? q2.1)) (fun ho => hr.pcs.odd k l q2.1 ho) _ _ q1 (by omega) (by omega)
  refine ⟨fun k b e i s f hs hy hsR hfR hbs heR => ?_, fun k b e i s f hs hy hfR => ?_⟩
  · obtain ⟨l, r, ys, yf, y1, y2, y3, y4⟩ := hy
    have heR' : e ∉ R := fun q => heR (List.mem_append_left _ q)
    by_cases hsN : s ∈ N
    · obtain ⟨rfl, rfl, a3, a4, a5⟩ := hnew _ _ _ _ _ y1 hsN
      rw [y2] at a5
      have hbR : b ∈ R := by
        obtain ⟨l', u, v, yb, ye, q1, q2, q3, _, _⟩ := hs
        have hbm := (sub2_mem hbs).1
        rcases List.mem_append.1 hbm with q | q
        · exact q
        · exfalso
          obtain ⟨rfl, rfl, b3, b4, b5⟩ := hnew _ _ _ _ _ q2 q
          rw [q3] at b5
          cases hk with
          | begin h7 _ _ =>
            rw [if_pos h7] at e2
            rw [h7] at a5 b5
            have : u = r := by omega
            subst this
            rw [a5] at b5
            cases b5
          | finish h7 _ _ _ =>
            rw [if_pos h7] at e2
            rw [h7] at a5 b5
            have : u = r := by omega
            subst this
            rw [a5] at b5
            cases b5
          | other h7 _ => exact (kinds_no h7).1 (List.mem_of_getElem? a5)
      cases hk with
      | begin h7 hq hM =>
        rw [hM]
        show upd M.wt i (fun k => M.wt i k || inK T M k) i k = true
        rw [upd_self, hopen k b e M R h hs hbR heR', Bool.or_true]
      | finish h7 hq _ _ =>
        exfalso
        rw [h7] at a5
        rw [if_pos h7] at e2
        have hz : r - (evsI 0 (l.take (M.pc i / 2)) 0).length = 1 := by unfold evc at a3 a4 e2; omega
        rw [hz] at a5
        cases a5
      | other h7 _ => exact absurd (List.mem_of_getElem? a5) (kinds_no h7).1
    · have hsR0 : s ∈ R := by rcases List.mem_append.1 hsR with q | q; exact q; exact absurd q hsN
      have hbs0 := sub2_old hbs hsN
      have hw := hS.met k b e i s f hs ⟨l, r, ys, yf, y1, y2, y3, y4⟩ hsR0 (fun q => hfR (List.mem_append_left _ q)) hbs0 heR'
      cases hk with
      | begin h7 hq hM =>
        rw [hM]
        show upd M.wt i0 (fun k => M.wt i0 k || inK T M k) i k = true
        by_cases hi : i = i0
        · subst hi; rw [upd_self, hw, Bool.true_or]
        · rw [upd_ne _ _ hi]; exact hw
      | finish h7 hq _ hM => rw [hM]; exact hw
      | other h7 hM =>
        have hwd : M'.wt = (doMo M i0 x).wt := by rw [hM]
        by_cases h6 : x.op = 6
        · have hd : (doMo M i0 x).wt = fun k j => if j = i0 then false else M.wt k j := by
            unfold doMo
            rw [if_neg (by simp [h6]), if_neg (by simp [h6]), if_neg (by simp [h6]), if_neg (by simp [h6]), if_pos (by simp [h6])]
          rw [hwd, hd]
          show (if k = i0 then false else M.wt i k) = true
          by_cases hki : k = i0
          · exfalso
            subst hki
            have hbR := (sub2_mem hbs0).1
            have hin := hopen k b e M' (R ++ N) h' hs (List.mem_append_left _ hbR) heR
            unfold inK at hin
            have hpc : M'.pc k = M.pc k + 2 := by rw [hM]; exact upd_self _ _ _
            rw [hl, hpc] at hin
            simp only at hin
            rw [insd_leave hx h6 (e3 h7)] at hin
            cases hin
          · rw [if_neg hki]; exact hw
        · have hd : (doMo M i0 x).wt = M.wt := by
            have e6 : (x.op == 6) = false := by simpa using h6
            unfold doMo
            rw [e6]
            repeat' split
            all_goals first | rfl | contradiction
          rw [hwd, hd]
          exact hw
  · obtain ⟨l, r, ys, yf, y1, y2, y3, y4⟩ := hy
    have hbf : b ≠ f := by
      obtain ⟨l', u, v, yb, ye, _, q2, q3, _, _⟩ := hs
      exact q2.kind_ne y3 (by rw [q3, y4]; omega)
    have hbs : b ≠ s := by
      obtain ⟨l', u, v, yb, ye, _, q2, q3, _, _⟩ := hs
      exact q2.kind_ne y1 (by rw [q3, y2]; omega)
    have hsubN : ∀ {a c : Nat}, [a, c].Sublist R → [a, c].Sublist (R ++ N) := fun hh => hh.trans (List.sublist_append_left _ _)
    by_cases hfN : f ∈ N
    · obtain ⟨rfl, rfl, a3, a4, a5⟩ := hnew _ _ _ _ _ y3 hfN
      rw [y4] at a5
      cases hk with
      | begin h7 hq _ =>
        exfalso
        rw [h7] at a5
        rw [if_pos h7] at e2
        have hz : r + 1 - (evsI 0 (l.take (M.pc i / 2)) 0).length = 0 := by unfold evc at a3 a4 e2; omega
        rw [hz] at a5
        cases a5
      | other h7 _ => exact absurd (List.mem_of_getElem? a5) (kinds_no h7).2
      | finish h7 hq hw0 hM =>
        rw [if_pos h7] at e2
        have hr : r + 1 = evc l (M.pc i) := by omega
        have hsR : s ∈ R := (h.mem _ _ _ _ _ y1).2 (by omega)
        have hfR0 : f ∉ R := fun q => by have := (h.mem _ _ _ _ _ y3).1 q; omega
        by_cases hbR : b ∈ R
        · rcases sub2_tot hbR hsR hbs with q | q
          · refine .inl ?_
            by_cases heR : e ∈ R
            · exact sub2_new heR hfN
            · exfalso
              have := hS.met k b e i s f hs ⟨l, r, ys, yf, y1, y2, y3, y4⟩ hsR hfR0 q heR
              have hkT : k < T.length := by
                obtain ⟨l', u, v, yb, ye, _, q2, _⟩ := hs
                exact (List.getElem?_eq_some_iff.1 q2.1).1
              rw [hw0 k hkT] at this
              cases this
          · exact .inr (.inr (hsubN q))
        · refine .inr (.inl fun q => ?_)
          rcases List.mem_append.1 q with q | q
          · exact hbR q
          · -- the only new one is f
            obtain ⟨l', u, v, yb, ye, _, q2, q3, _, _⟩ := hs
            obtain ⟨rfl, rfl, b3, b4, _⟩ := hnew _ _ _ _ _ q2 q
            have : u = r + 1 := by omega
            subst this
            have h1 := q2.2.2
            have h2 := y3.2.2
            omega
    · have hfR0 : f ∈ R := by rcases List.mem_append.1 hfR with q | q; exact q; exact absurd q hfN
      rcases hS.fin k b e i s f hs ⟨l, r, ys, yf, y1, y2, y3, y4⟩ hfR0 with q | q | q
      · exact .inl (hsubN q)
      · by_cases hbN : b ∈ N
        · have hsR : s ∈ R := (h.mem _ _ _ _ _ y1).2 (by have := (h.mem _ _ _ _ _ y3).1 hfR0; omega)
          exact .inr (.inr (sub2_new hsR hbN))
        · exact .inr (.inl fun hh => by rcases List.mem_append.1 hh with q' | q'; exact q q'; exact hbN q')
      · exact .inr (.inr (hsubN q))

theorem run_sec {T : List (List Ins)} (hnst : ∀ l ∈ T, nst l 0 false < 0) {R : List Nat} {M : Mo} (h : Run T R M) : SecOkR T R M := by
  induction h with
  | start => exact ⟨fun k b e i s f _ _ hs => (by cases hs), fun k b e i s f _ _ hf => (by cases hf)⟩
  | step R M M' i l hr hl hs ih =>
    obtain ⟨x, hx, hk⟩ := step_kind hl hs
    exact secOk_step hnst (run_ok hr) ih hl hx hk

end Go.Proofs.Ytomijmikkbhgmab

namespace Go.Proofs.Ytomijmikkbhgmab

theorem fr_src {T : List (List Ins)} (hF : Fits T) {x : Exe} (hx : IsEx (evsT T 0) x) (d : Nat) (f : Int) : valN (evsT T 0) (frS (evsT T 0) x) d f = valN (evsT T 0) (srcS (evsT T 0) x) d f :=
  valN_congr (fun i y hy hk => (src_same hF.el hF.locs hx i y hy hk).symm) d f

theorem val_pi {T T' : List (List Ins)} {σ : Nat → Nat} {k m : Int} (h : Rn T T' σ k m) {x : Exe} (hx : IsEx (evsT T 0) x) (d : Nat) (f : Int) (hf : f = -1 ∨ ∃ a : Nat, f = (a : Int) ∧ a < (evsT T 0).length) : valN (evsT T' 0) (srcS (evsT T' 0) (phiX T T' σ k m x)) d (piI T T' σ f) = valN (evsT T 0) (srcS (evsT T 0) x) d f := by
  have hr := hx.ranks h.f.el h.f.locs
  induction d generalizing f with
  | zero => rfl
  | succ d ih =>
    rcases hf with rfl | ⟨a, rfl, ha⟩
    · rw [piI_neg, valN_neg _ _ _ (by omega), valN_neg _ _ _ (by omega)]
    · obtain ⟨y, hy⟩ := get_of_lt ha
      have hy' := ren_ev h.r hy
      rw [piI_nat]
      cases hk : y.kind == 0
      · cases ho : y.ins.op == 1
        · rw [valN_else hy hk ho, valN_else hy' hk (by rw [← ho]; exact congrArg (· == (1 : Int)) (swI_op k m y.ins))]
          exact swI_val k m y.ins
        · rw [valN_copy hy hk ho, valN_copy hy' hk (by rw [← ho]; exact congrArg (· == (1 : Int)) (swI_op k m y.ins)), cpy_src h.r hy]
          exact ih _ (srcG_lt y _ a)
      · rw [valN_read hy hk, valN_read hy' hk, phi_src h hx ha]
        refine ih _ ?_
        rcases hr.read a y hy (by simpa using hk) with ⟨s1, _⟩ | ⟨b, _, s1, s2, _, _⟩
        · exact .inl s1
        · exact .inr ⟨b, s1, s2⟩

theorem srcG_full (y : Evt) (E : List Evt) : srcG y E 0 (-1) = -1 ∨ ∃ a : Nat, srcG y E 0 (-1) = (a : Int) ∧ a < E.length := by
  have := srcG_lt y E E.length
  rw [List.take_length] at this
  exact this

theorem reg_pi {T T' : List (List Ins)} {σ : Nat → Nat} {k m : Int} (h : Rn T T' σ k m) {x : Exe} (hx : IsEx (evsT T 0) x) {a : Nat} (ha : a < T.length) (r : Nat) : regV (evsT T' 0) (frS (evsT T' 0) (phiX T T' σ k m x)) (σ a) r = regV (evsT T 0) (frS (evsT T 0) x) a r := by
  unfold regV
  rw [fr_src h.f' (phi_isEx h hx), fr_src h.f hx, ren_len h.r]
  have hs := srcG_pi h.r (y := evtOf (a : Int) (r : Int)) (y' := evtOf ((σ a : Nat) : Int) (r : Int)) ha rfl rfl rfl (evsT T 0).length (evsT T' 0).length (fun d z hz _ => by
    have h1 := (List.getElem?_eq_some_iff.1 hz).1
    have h2 := piE_lt h.r h1
    exact ⟨fun _ => h2, fun _ => h1⟩)
  rw [List.take_length, List.take_length] at hs
  rw [hs]
  exact val_pi h hx _ _ (srcG_full _ _)

theorem loc_pi {T T' : List (List Ins)} {σ : Nat → Nat} {k m : Int} (h : Rn T T' σ k m) {x : Exe} (hx : IsEx (evsT T 0) x) {l : Nat} (hl : l < 3) : locV (evsT T' 0) (frS (evsT T' 0) (phiX T T' σ k m x)) (phiX T T' σ k m x) l = locV (evsT T 0) (frS (evsT T 0) x) x (lamL k m (l : Int)).toNat := by
  have hjl : locB (l : Int) = true := by unfold locB; simp; omega
  have hlb := lamL_ok h.hk h.hm hjl
  have hr := hx.ranks h.f.el h.f.locs
  have e1 : (phiX T T' σ k m x).order.getD l [] = (ordAt x (lamL k m (l : Int))).map (piI T T' σ) := by
    have := phi_ord (T := T) (T' := T') (σ := σ) (k := k) (m := m) (x := x) hjl
    unfold ordAt at this ⊢
    rw [Int.toNat_natCast] at this
    exact this
  have e2 : x.order.getD (lamL k m (l : Int)).toNat [] = ordAt x (lamL k m (l : Int)) := rfl
  unfold locV
  rw [e1, e2, List.getLast?_map]
  cases hg : (ordAt x (lamL k m (l : Int))).getLast? with
  | none => rfl
  | some w =>
    obtain ⟨i, y, q1, q2, _, _⟩ := (hr.mem _ hlb w).1 (List.mem_of_getLast? hg)
    simp only [Option.map_some]
    rw [fr_src h.f' (phi_isEx h hx), fr_src h.f hx, ren_len h.r]
    exact val_pi h hx _ _ (.inr ⟨i, q2, (List.getElem?_eq_some_iff.1 q1).1⟩)

/-- A state, with threads and locations changed about. -/
def renS (n : Nat) (σ : Nat → Nat) (k m : Int) (s : List Int) : List Int := ((List.range n).flatMap fun a => (List.range 3).map fun r => s.getD (3 * σ a + r) 0) ++ (List.range 3).map fun l : Nat => s.getD (3 * n + (lamL k m (l : Int)).toNat) 0

theorem sta_reg {n : Nat} {f : Nat → Nat → Int} {g : Nat → Int} {a r : Nat} (ha : a < n) (hr : r < 3) : (((List.range n).flatMap fun a => (List.range 3).map (f a)) ++ (List.range 3).map g).getD (3 * a + r) 0 = f a r := by
  have hf := flat_get (fun a => (List.range 3).map (f a)) 3 (fun _ => by simp) (List.range n) a r a (by rw [List.getElem?_range ha]) hr
  have hlen : ((List.range n).flatMap fun a => (List.range 3).map (f a)).length = n * 3 := by rw [flat_len _ 3 (fun _ => by simp)]; simp
  rw [List.getD_eq_getElem?_getD, List.getElem?_append_left (by rw [hlen]; omega), Nat.mul_comm 3 a, hf, List.getElem?_map, List.getElem?_range hr]
  rfl
theorem sta_loc {n : Nat} {f : Nat → Nat → Int} {g : Nat → Int} {l : Nat} (hl : l < 3) : (((List.range n).flatMap fun a => (List.range 3).map (f a)) ++ (List.range 3).map g).getD (3 * n + l) 0 = g l := by
  have hlen : ((List.range n).flatMap fun a => (List.range 3).map (f a)).length = n * 3 := by rw [flat_len _ 3 (fun _ => by simp)]; simp
  rw [List.getD_eq_getElem?_getD, List.getElem?_append_right (by rw [hlen]; omega), hlen, show 3 * n + l - n * 3 = l by omega, List.getElem?_map, List.getElem?_range hl]
  rfl

theorem lam3 {k m : Int} (hk : locB k = true) (hm : locB m = true) {l : Nat} (hl : l < 3) : (lamL k m (l : Int)).toNat < 3 ∧ (((lamL k m (l : Int)).toNat : Nat) : Int) = lamL k m (l : Int) := by
  have := lamL_ok hk hm (l := (l : Int)) (by unfold locB; simp; omega)
  unfold locB at this
  simp only [Bool.and_eq_true, decide_eq_true_eq] at this
  omega

theorem flatMap_congr' {α β : Type} {l : List α} {f g : α → List β} (h : ∀ a ∈ l, f a = g a) : l.flatMap f = l.flatMap g := by
  induction l with
  | nil => rfl
  | cons a l ih => rw [List.flatMap_cons, List.flatMap_cons, h a (List.mem_cons_self ..), ih fun b hb => h b (List.mem_cons_of_mem _ hb)]

theorem stX_pi {T T' : List (List Ins)} {σ : Nat → Nat} {k m : Int} (h : Rn T T' σ k m) {x : Exe} (hx : IsEx (evsT T 0) x) : stX T' (evsT T' 0) (phiX T T' σ k m x) = renS T.length σ k m (stX T (evsT T 0) x) := by
  unfold stX staL renS
  rw [h.r.len]
  congr 1
  · refine flatMap_congr' fun a ha => ?_
    have ha' := List.mem_range.1 ha
    refine List.map_congr_left fun r hr => ?_
    obtain ⟨h1, h2⟩ := h.r.inv a ha'
    rw [sta_reg h1 (List.mem_range.1 hr)]
    have := reg_pi h hx h1 r
    rw [h2] at this
    exact this
  · refine List.map_congr_left fun l hl => ?_
    have hl' := List.mem_range.1 hl
    rw [sta_loc (lam3 h.hk h.hm hl').1]
    exact loc_pi h hx hl'

theorem renS_inv {n : Nat} {σ : Nat → Nat} {k m : Int} (hσ : ∀ a, a < n → σ a < n ∧ σ (σ a) = a) (hk : locB k = true) (hm : locB m = true) (f : Nat → Nat → Int) (g : Nat → Int) : renS n σ k m (renS n σ k m (((List.range n).flatMap fun a => (List.range 3).map (f a)) ++ (List.range 3).map g)) = ((List.range n).flatMap fun a => (List.range 3).map (f a)) ++ (List.range 3).map g := by
  generalize hs : ((List.range n).flatMap fun a => (List.range 3).map (f a)) ++ (List.range 3).map g = s
  have e : renS n σ k m s = ((List.range n).flatMap fun a => (List.range 3).map (fun r => s.getD (3 * σ a + r) 0)) ++ (List.range 3).map fun l : Nat => s.getD (3 * n + (lamL k m (l : Int)).toNat) 0 := rfl
  rw [show renS n σ k m (renS n σ k m s) = ((List.range n).flatMap fun a => (List.range 3).map (fun r => (renS n σ k m s).getD (3 * σ a + r) 0)) ++ (List.range 3).map fun l : Nat => (renS n σ k m s).getD (3 * n + (lamL k m (l : Int)).toNat) 0 from rfl, e, ← hs]
  congr 1
  · refine flatMap_congr' fun a ha => ?_
    have ha' := List.mem_range.1 ha
    refine List.map_congr_left fun r hr => ?_
    obtain ⟨h1, h2⟩ := hσ a ha'
    have hr' := List.mem_range.1 hr
    rw [sta_reg h1 hr', h2, sta_reg ha' hr']
  · refine List.map_congr_left fun l hl => ?_
    have hl' := List.mem_range.1 hl
    obtain ⟨q1, q2⟩ := lam3 hk hm hl'
    rw [sta_loc q1, q2, lamL_inv, Int.toNat_natCast, sta_loc hl']

end Go.Proofs.Ytomijmikkbhgmab
