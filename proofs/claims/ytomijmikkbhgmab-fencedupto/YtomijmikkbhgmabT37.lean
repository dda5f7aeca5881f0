import Derived.Test.YtomijmikkbhgmabT36
import Derived.Test.YtomijmikkbhgmabT33
namespace Go.Proofs.Ytomijmikkbhgmab

/-- A row that a run begins, with all other events behind it. -/
def extR (T : List (List Ins)) (R : List Nat) : List Nat := R ++ (List.range (evsT T 0).length).filter fun e => !R.contains e

theorem thr_idx {E : List Evt} {R : List Nat} (hm : ∀ a, a ∈ R ↔ a < E.length) (h : R.Pairwise fun a b => ∀ ya yb, E[a]? = some ya → E[b]? = some yb → ya.thread = yb.thread → a < b) (a b : Nat) (ya yb : Evt) (hya : E[a]? = some ya) (hyb : E[b]? = some yb) (ht : ya.thread = yb.thread) (hab : a < b) : R.idxOf a < R.idxOf b := by
  have ha := (hm a).2 (List.getElem?_eq_some_iff.1 hya).1
  have hb := (hm b).2 (List.getElem?_eq_some_iff.1 hyb).1
  obtain ⟨la, ea⟩ := List.getElem?_eq_some_iff.1 (idx_get ha)
  obtain ⟨lb, eb⟩ := List.getElem?_eq_some_iff.1 (idx_get hb)
  rcases Nat.lt_trichotomy (R.idxOf a) (R.idxOf b) with q | q | q
  · exact q
  · exfalso
    have := idx_inj ha hb q
    omega
  · exfalso
    have := List.pairwise_iff_getElem.1 h _ _ lb la q yb ya (by rw [eb]; exact hyb) (by rw [ea]; exact hya) ht.symm
    rw [eb, ea] at this
    omega

theorem ext_row {T : List (List Ins)} {R : List Nat} {M : Mo} (h : RunOk T R M) : (extR T R).Nodup ∧ (∀ a, a ∈ extR T R ↔ a < (evsT T 0).length) ∧ (extR T R).Pairwise fun a b => ∀ ya yb, (evsT T 0)[a]? = some ya → (evsT T 0)[b]? = some yb → ya.thread = yb.thread → a < b := by
  have hf : ∀ e, e ∈ (List.range (evsT T 0).length).filter (fun e => !R.contains e) ↔ e < (evsT T 0).length ∧ e ∉ R := fun e => by
    rw [List.mem_filter, List.mem_range]
    simp
  unfold extR
  refine ⟨List.nodup_append.2 ⟨h.nd, List.nodup_range.filter _, fun a ha b hb e => ?_⟩, fun a => ?_, List.pairwise_append.2 ⟨h.thr, ?_, fun a ha b hb ya yb hya hyb ht => ?_⟩⟩
  · rw [e] at ha; exact ((hf b).1 hb).2 ha
  · rw [List.mem_append, hf]
    constructor
    · rintro (q | q)
      · exact h.lt a q
      · exact q.1
    · intro q
      by_cases ha : a ∈ R
      · exact .inl ha
      · exact .inr ⟨q, ha⟩
  · exact (List.pairwise_lt_range.filter _).imp fun hab _ _ _ _ _ => hab
  · have hbn := ((hf b).1 hb).2
    obtain ⟨i, r, l, q1⟩ := at_of hya
    obtain ⟨j, r', l', q2⟩ := at_of hyb
    have hij : j = i := by rw [q1.th, q2.th] at ht; omega
    subst hij
    have hl := q1.1
    rw [q2.1] at hl
    cases hl
    have a1 := (h.mem _ _ _ _ _ q1).1 ha
    have a2 : ¬ r' < evc l (M.pc j) := fun q => hbn ((h.mem _ _ _ _ _ q2).2 q)
    have := q1.2.2
    have := q2.2.2
    omega

theorem ext_val {T : List (List Ins)} {c : List Atm} (hz : ((chk T c).1 == 0) = true) {R : List Nat} {M : Mo} (h : Run T R M) : RowOk (evsT T 0) (extR T R) (extR T R).idxOf ∧ ValOk T (extR T R) (valR T (extR T R) (extR T R).idxOf) R M := by
  obtain ⟨e1, e2, e3⟩ := ext_row (run_ok h)
  have hO : RowOk (evsT T 0) (extR T R) (extR T R).idxOf := rowOk_idx e1 e2
  have hV := valR_thr (fits_of hz) hO (thr_idx e2 e3)
  exact ⟨hO, run_prefix hz hO hV h _ rfl⟩

/-- The writes that have come, by what is written in the end and by where the threads stand. -/
theorem ext_writes {T : List (List Ins)} {R : List Nat} (a : Int) : R.filter (isWr (evsT T 0) a) = ((extR T R).filter (isWr (evsT T 0) a)).filter fun e => R.contains e := by
  unfold extR
  rw [List.filter_append, List.filter_append]
  have h1 : (R.filter (isWr (evsT T 0) a)).filter (fun e => R.contains e) = R.filter (isWr (evsT T 0) a) := List.filter_eq_self.2 fun e he => by
    have := (List.mem_filter.1 he).1
    simpa using this
  have h2 : (((List.range (evsT T 0).length).filter fun e => !R.contains e).filter (isWr (evsT T 0) a)).filter (fun e => R.contains e) = [] := List.filter_eq_nil_iff.2 fun e he => by
    have := (List.mem_filter.1 (List.mem_filter.1 he).1).2
    simpa using this
  rw [h1, h2, List.append_nil]

theorem same_held {T : List (List Ins)} {c : List Atm} (hz : ((chk T c).1 == 0) = true) {R R' : List Nat} {M M' : Mo} (h : Run T R M) (h' : Run T R' M') (hpc : ∀ i, i < T.length → M.pc i = M'.pc i) (hX : rowX (evsT T 0) (extR T R) (extR T R).idxOf = rowX (evsT T 0) (extR T R') (extR T R').idxOf) : (∀ i r, i < T.length → r < 3 → M.rg i r = M'.rg i r) ∧ ∀ a, a < 3 → M.lc a = M'.lc a := by
  obtain ⟨_, v1⟩ := ext_val hz h
  obtain ⟨_, v2⟩ := ext_val hz h'
  have hV : ∀ a, valR T (extR T R) (extR T R).idxOf a = valR T (extR T R') (extR T R').idxOf a := fun a => by
    unfold valR
    rw [hX]
  have hmem : ∀ e, e < (evsT T 0).length → (e ∈ R ↔ e ∈ R') := fun e he => by
    obtain ⟨y, hy⟩ := get_of_lt he
    obtain ⟨i, r, l, q⟩ := at_of hy
    rw [(run_ok h).mem _ _ _ _ _ q, (run_ok h').mem _ _ _ _ _ q, hpc i (List.getElem?_eq_some_iff.1 q.1).1]
  have hcont : ∀ e, R.contains e = R'.contains e := fun e => by
    have : e ∈ R ↔ e ∈ R' := by
      constructor
      · intro q; exact (hmem e ((run_ok h).lt e q)).1 q
      · intro q; exact (hmem e ((run_ok h').lt e q)).2 q
    cases hc : R'.contains e
    · have hn : e ∉ R' := by simpa using hc
      have : e ∉ R := fun q => hn (this.1 q)
      simpa using this
    · have hn : e ∈ R' := by simpa using hc
      have := this.2 hn
      simpa using this
  refine ⟨fun i r hi hr => ?_, fun a ha => ?_⟩
  · obtain ⟨l, hl⟩ := get_of_lt hi
    rw [v1.rg i l hl r hr, v2.rg i l hl r hr, hV, hpc i hi]
  · rw [v1.lc a ha, v2.lc a ha, hV]
    congr 1
    have hord : ordR (evsT T 0) (extR T R) (a : Int) = ordR (evsT T 0) (extR T R') (a : Int) := by
      have ho := congrArg (fun x => x.order) hX
      simp only [rowX, List.cons.injEq, and_true] at ho
      match a, ha with
      | 0, _ => exact ho.1
      | 1, _ => exact ho.2.1
      | 2, _ => exact ho.2.2
    have hfl : (extR T R).filter (isWr (evsT T 0) (a : Int)) = (extR T R').filter (isWr (evsT T 0) (a : Int)) := by
      unfold ordR at hord
      have := congrArg (List.map Int.toNat) hord
      simpa [List.map_map, Function.comp_def] using this
    have hw : R.filter (isWr (evsT T 0) (a : Int)) = R'.filter (isWr (evsT T 0) (a : Int)) := by
      rw [ext_writes, ext_writes (R := R'), hfl]
      congr 1
      funext e
      exact hcont e
    unfold lastR
    have t1 : ∀ Q : List Nat, (extR T Q).take Q.length = Q := fun Q => by unfold extR; simp
    rw [t1, t1, hw]

/-- Who is not in the midst of a Sync waits for nobody. -/
def EvenW (T : List (List Ins)) (M : Mo) : Prop := ∀ i, i < T.length → M.pc i % 2 = 0 → ∀ k, k < T.length → M.wt i k = false

theorem do_wt {M : Mo} {i : Nat} {x : Ins} {j k : Nat} (h : M.wt j k = false) : (doMo M i x).wt j k = false := by
  unfold doMo
  repeat' split
  all_goals first | exact h | skip
  show (if k = i then false else M.wt j k) = false
  rw [h]
  split <;> rfl

theorem run_even {T : List (List Ins)} {R : List Nat} {M : Mo} (h : Run T R M) : EvenW T M := by
  induction h with
  | start => exact fun i _ _ k _ => rfl
  | step R M M' i l hr hl hs ih =>
    obtain ⟨x, hx, hk⟩ := step_kind hl hs
    intro j hj hq k hkT
    cases hk with
    | begin h7 hq0 hM =>
      subst hM
      by_cases hji : j = i
      · subst hji
        have : upd M.pc j (M.pc j + 1) j % 2 = 0 := hq
        rw [upd_self] at this
        omega
      · have hq' : upd M.pc i (M.pc i + 1) j % 2 = 0 := hq
        rw [upd_ne _ _ hji] at hq'
        show upd M.wt i _ j k = false
        rw [upd_ne _ _ hji]
        exact ih j hj hq' k hkT
    | finish h7 hq0 hw hM =>
      subst hM
      by_cases hji : j = i
      · subst hji; exact hw k hkT
      · have hq' : upd M.pc i (M.pc i + 1) j % 2 = 0 := hq
        rw [upd_ne _ _ hji] at hq'
        exact ih j hj hq' k hkT
    | other h7 hM =>
      subst hM
      refine do_wt (ih j hj ?_ k hkT)
      have hq' : upd M.pc i (M.pc i + 2) j % 2 = 0 := hq
      by_cases hji : j = i
      · subst hji; rw [upd_self] at hq'; omega
      · rw [upd_ne _ _ hji] at hq'; exact hq'

/-! numbers of moments -/
def cod (f : Nat → Nat) : Nat → Nat
  | 0 => 0
  | k + 1 => cod f k * 205 + f k
theorem cod_lt {f : Nat → Nat} {k : Nat} (h : ∀ i, i < k → f i < 205) : cod f k < 205 ^ k := by
  induction k with
  | zero => simp [cod]
  | succ k ih =>
    have h1 := ih fun i hi => h i (by omega)
    have h2 := h k (by omega)
    rw [cod, Nat.pow_succ]
    omega
theorem cod_inj {f g : Nat → Nat} {k : Nat} (hf : ∀ i, i < k → f i < 205) (hg : ∀ i, i < k → g i < 205) (h : cod f k = cod g k) : ∀ i, i < k → f i = g i := by
  induction k with
  | zero => intro i hi; omega
  | succ k ih =>
    rw [cod, cod] at h
    have h1 := hf k (by omega)
    have h2 := hg k (by omega)
    have e : cod f k = cod g k := by omega
    intro i hi
    by_cases hik : i = k
    · subst hik; omega
    · exact ih (fun i hi => hf i (by omega)) (fun i hi => hg i (by omega)) e i (by omega)

def pcw (q w : Nat) : Nat := if q % 2 = 0 then q / 2 else 13 + 16 * (q / 2) + w
theorem pcw_lt {q w : Nat} (hq : q ≤ 24) (hw : w < 16) : pcw q w < 205 := by unfold pcw; split <;> omega
theorem pcw_inj {q w q' w' : Nat} (hq : q ≤ 24) (hq' : q' ≤ 24) (hw : w < 16) (hw' : w' < 16) (h0 : q % 2 = 0 → w = 0) (h0' : q' % 2 = 0 → w' = 0) (h : pcw q w = pcw q' w') : q = q' ∧ w = w' := by
  unfold pcw at h
  split at h <;> split at h
  · have := h0 (by omega); have := h0' (by omega); omega
  · omega
  · omega
  · omega

def NumOf (T : List (List Ins)) (m : List Int) (k : Nat) : Prop := ∃ R M n, Run T R M ∧ m = encM T.length M ∧ n < 2000 ∧ exN (evsT T 0) n = rowX (evsT T 0) (extR T R) (extR T R).idxOf ∧ k = cod (fun i => pcw (M.pc i) (wtN (M.wt i) T.length)) T.length * 2000 + n

theorem run_pc {T : List (List Ins)} {c : List Atm} (hz : ((chk T c).1 == 0) = true) {R : List Nat} {M : Mo} (h : Run T R M) {i : Nat} (hi : i < T.length) : M.pc i ≤ 24 := by
  obtain ⟨l, hl⟩ := get_of_lt hi
  have h1 := (run_ok h).pcs.le i l hl
  have h2 := lensB_get (fits_of hz).lens hl
  omega
theorem wtN_16 {f : Nat → Bool} {n : Nat} (hn : n ≤ 4) : wtN f n < 16 := Nat.lt_of_lt_of_le (wtN_lt _ _) (by have := Nat.pow_le_pow_right (n := 2) (by omega) hn; omega)

theorem num_of {T : List (List Ins)} {c : List Atm} (hz : ((chk T c).1 == 0) = true) (hT4 : T.length ≤ 4) (hsz : sizeN (evsT T 0) ≤ 2000) {R : List Nat} {M : Mo} (h : Run T R M) : ∃ k, k < 3532201250000 ∧ NumOf T (encM T.length M) k := by
  obtain ⟨hO, _⟩ := ext_val hz h
  obtain ⟨n, n1, n2⟩ := (rowX_isEx hO).mem
  refine ⟨_, ?_, R, M, n, h, rfl, by omega, n2, rfl⟩
  have h1 := cod_lt (f := fun i => pcw (M.pc i) (wtN (M.wt i) T.length)) (k := T.length) fun i hi => pcw_lt (run_pc hz h hi) (wtN_16 hT4)
  have h2 : 205 ^ T.length ≤ 205 ^ 4 := Nat.pow_le_pow_right (by omega) hT4
  have h3 : (205 : Nat) ^ 4 = 1766100625 := by decide
  omega

theorem num_inj {T : List (List Ins)} {c : List Atm} (hz : ((chk T c).1 == 0) = true) (hT4 : T.length ≤ 4) {m m' : List Int} {k : Nat} (h : NumOf T m k) (h' : NumOf T m' k) : m = m' := by
  obtain ⟨R, M, n, r1, rfl, r3, r4, r5⟩ := h
  obtain ⟨R', M', n', s1, rfl, s3, s4, s5⟩ := h'
  have hn : n = n' := by omega
  have hc : cod (fun i => pcw (M.pc i) (wtN (M.wt i) T.length)) T.length = cod (fun i => pcw (M'.pc i) (wtN (M'.wt i) T.length)) T.length := by omega
  have hd := cod_inj (fun i hi => pcw_lt (run_pc hz r1 hi) (wtN_16 hT4)) (fun i hi => pcw_lt (run_pc hz s1 hi) (wtN_16 hT4)) hc
  have hpw : ∀ i, i < T.length → M.pc i = M'.pc i ∧ wtN (M.wt i) T.length = wtN (M'.wt i) T.length := fun i hi => pcw_inj (run_pc hz r1 hi) (run_pc hz s1 hi) (wtN_16 hT4) (wtN_16 hT4) (fun q => wtN_zero.2 (run_even r1 i hi q)) (fun q => wtN_zero.2 (run_even s1 i hi q)) (hd i hi)
  subst hn
  obtain ⟨e1, e2⟩ := same_held hz r1 s1 (fun i hi => (hpw i hi).1) (r4.symm.trans s4)
  refine enc_ext (enc_len _ _) (fun i hi => by rw [enc_pc M hi, (hpw i hi).1]) (fun i hi => by rw [enc_wt M hi, (hpw i hi).2]) (fun i r hi hr => by rw [enc_tail, tail_rg M hi hr, e1 i r hi hr]) (fun a ha => by rw [enc_tail, tail_lc M ha, e2 a ha])

theorem rel_le {α : Type} {L : List α} {B : Nat} {P : α → Nat → Prop} (hn : L.Nodup) (h : ∀ m ∈ L, ∃ k, k < B ∧ P m k) (hinj : ∀ m m' k, P m k → P m' k → m = m') : L.length ≤ B := by
  have hex : ∀ m : α, ∃ k, m ∈ L → k < B ∧ P m k := fun m => by
    by_cases hm : m ∈ L
    · obtain ⟨k, q⟩ := h m hm; exact ⟨k, fun _ => q⟩
    · exact ⟨0, fun q => absurd q hm⟩
  let f : α → Nat := fun m => Classical.choose (hex m)
  have hf : ∀ m ∈ L, f m < B ∧ P m (f m) := fun m hm => Classical.choose_spec (hex m) hm
  have hnd : (L.map f).Nodup := List.pairwise_map.2 (List.Pairwise.imp_of_mem (fun {a b} ha hb hab e => hab (hinj a b (f a) (hf a ha).2 (by rw [e]; exact (hf b hb).2))) hn)
  have := nodup_leA (m := List.range B) hnd fun x hx => by
    obtain ⟨m, hm, rfl⟩ := List.mem_map.1 hx
    exact List.mem_range.2 (hf m hm).1
  rw [List.length_map, List.length_range] at this
  exact this

/-- So many moments there are at most. -/
theorem moments_le {T : List (List Ins)} {c : List Atm} (hz : ((chk T c).1 == 0) = true) (hT4 : T.length ≤ 4) (hsz : sizeN (evsT T 0) ≤ 2000) {L : List (List Int)} (hn : L.Nodup) (h : ∀ m ∈ L, ∃ R M, Run T R M ∧ m = encM T.length M) : L.length ≤ 3532201250000 :=
  rel_le (P := NumOf T) hn (fun m hm => by obtain ⟨R, M, r1, rfl⟩ := h m hm; exact num_of hz hT4 hsz r1) (fun m m' k => num_inj hz hT4)

end Go.Proofs.Ytomijmikkbhgmab

namespace Go.Proofs.Ytomijmikkbhgmab

structure BI (T : List (List Ins)) (P : Nat) (L : Nat → List (List Int)) (k ke i : Nat) : Prop where
  hd : ∃ S', L 1 = encM T.length moZ :: S'
  run : ∀ m ∈ L 1, ∃ R M, Run T R M ∧ m = encM T.length M
  nd : (L 1).tail.Nodup
  t1 : ∀ (R : List Nat) (M : Mo), Run T R M → encM T.length M ∈ (L 1).tail → encM T.length M ∈ L (stdN T M T.length + 2)
  t2 : ∀ (p : Nat) (m : List Int), p < P → m ∈ L (p + 2) → m ∈ (L 1).tail
  tn : ∀ p, p < P → (L (p + 2)).Nodup
  clo : ∀ (j : Nat) (R : List Nat) (M : Mo) (i' : Nat) (M' : Mo), (j < k ∨ (j = k ∧ i' < i)) → (L 1)[j]? = some (encM T.length M) → Run T R M → i' < T.length → stepMo T M i' = some M' → encM T.length M' ∈ L 1
  e1 : ∀ l ∈ L 0, ∃ R M, Run T R M ∧ DoneM T M ∧ l = tailM T.length M
  e2 : ∀ (j : Nat) (R : List Nat) (M : Mo), j < ke → (L 1)[j]? = some (encM T.length M) → Run T R M → DoneM T M → tailM T.length M ∈ L 0
  e3 : (L 0).length ≤ ke

def L0 (T : List (List Ins)) : Nat → List (List Int) := upd (fun _ => []) 1 [encM T.length moZ]

theorem bi_start (T : List (List Ins)) (P : Nat) : BI T P (L0 T) 0 0 0 := by
  have h1 : L0 T 1 = [encM T.length moZ] := upd_self _ _ _
  have h2 : ∀ p, L0 T (p + 2) = [] := fun p => upd_ne _ _ (by omega)
  have h0 : L0 T 0 = [] := upd_ne _ _ (by omega)
  refine ⟨⟨[], h1⟩, fun m hm => ?_, by rw [h1]; exact List.nodup_nil, fun R M _ hm => ?_, fun p m _ hm => ?_, fun p _ => by rw [h2]; exact List.nodup_nil, fun j R M i' M' hc => by omega, fun l hl => ?_, fun j R M hj => by omega, by rw [h0]; exact Nat.le_refl _⟩
  · rw [h1] at hm
    exact ⟨[], moZ, Run.start, by simpa using hm⟩
  · rw [h1] at hm; cases hm
  · rw [h2] at hm; cases hm
  · rw [h0] at hl; cases hl

theorem eqM_done {T : List (List Ins)} {M M' : Mo} (h : EqM T.length M M') (hd : DoneM T M) : DoneM T M' := fun i l hl => by
  rw [← h.pc i (List.getElem?_eq_some_iff.1 hl).1]
  exact hd i l hl
theorem eqM_tail {n : Nat} {M M' : Mo} (h : encM n M = encM n M') : tailM n M = tailM n M' := by
  rw [← enc_drop n M, h, enc_drop]

theorem BI.not_done {T : List (List Ins)} {P : Nat} {L : Nat → List (List Int)} {k : Nat} (h : BI T P L k k 0) {M : Mo} (hm : (L 1)[k]? = some (encM T.length M)) (hd : ¬ DoneM T M) : BI T P L k (k + 1) 0 :=
  ⟨h.hd, h.run, h.nd, h.t1, h.t2, h.tn, h.clo, h.e1, fun j R M' hj hS hr hd' => by
    by_cases hjk : j = k
    · subst hjk
      rw [hm] at hS
      exact absurd (eqM_done (enc_eqM (Option.some.inj hS).symm) hd') hd
    · exact h.e2 j R M' (by omega) hS hr hd', by have := h.e3; omega⟩

theorem BI.old_end {T : List (List Ins)} {P : Nat} {L : Nat → List (List Int)} {k : Nat} (h : BI T P L k k 0) {M : Mo} (hm : (L 1)[k]? = some (encM T.length M)) (hin : tailM T.length M ∈ L 0) : BI T P L k (k + 1) 0 :=
  ⟨h.hd, h.run, h.nd, h.t1, h.t2, h.tn, h.clo, h.e1, fun j R M' hj hS hr hd' => by
    by_cases hjk : j = k
    · subst hjk
      rw [hm] at hS
      rw [← eqM_tail (Option.some.inj hS)]
      exact hin
    · exact h.e2 j R M' (by omega) hS hr hd', by have := h.e3; omega⟩

theorem BI.new_end {T : List (List Ins)} {P : Nat} {L : Nat → List (List Int)} {k : Nat} (h : BI T P L k k 0) {R : List Nat} {M : Mo} (hr : Run T R M) (hm : (L 1)[k]? = some (encM T.length M)) (hd : DoneM T M) : BI T P (upd L 0 (L 0 ++ [tailM T.length M])) k (k + 1) 0 := by
  have h1 : upd L 0 (L 0 ++ [tailM T.length M]) 1 = L 1 := upd_ne _ _ (by omega)
  have h2 : ∀ p, upd L 0 (L 0 ++ [tailM T.length M]) (p + 2) = L (p + 2) := fun p => upd_ne _ _ (by omega)
  have h0 : upd L 0 (L 0 ++ [tailM T.length M]) 0 = L 0 ++ [tailM T.length M] := upd_self _ _ _
  refine ⟨by rw [h1]; exact h.hd, by rw [h1]; exact h.run, by rw [h1]; exact h.nd, fun R M a b => ?_, fun p m a b => ?_, fun p a => ?_, by rw [h1]; exact h.clo, fun l hl => ?_, fun j R M' hj hS hr' hd' => ?_, ?_⟩
  · rw [h1] at b; rw [h2]; exact h.t1 R M a b
  · rw [h2] at b; rw [h1]; exact h.t2 p m a b
  · rw [h2]; exact h.tn p a
  · rw [h0] at hl
    rcases List.mem_append.1 hl with q | q
    · exact h.e1 l q
    · have : l = tailM T.length M := by simpa using q
      exact ⟨R, M, hr, hd, this⟩
  · rw [h1] at hS
    rw [h0]
    by_cases hjk : j = k
    · subst hjk
      rw [hm] at hS
      rw [← eqM_tail (Option.some.inj hS)]
      simp
    · exact List.mem_append_left _ (h.e2 j R M' (by omega) hS hr' hd')
  · rw [h0, List.length_append]
    have := h.e3
    simp
    omega

theorem BI.no_step {T : List (List Ins)} (hmay : ∀ l ∈ T, ∀ x ∈ l, mayB x = true) {P : Nat} {L : Nat → List (List Int)} {k i : Nat} (h : BI T P L k (k + 1) i) {M : Mo} (hm : (L 1)[k]? = some (encM T.length M)) (hs : stepMo T M i = none) : BI T P L k (k + 1) (i + 1) :=
  ⟨h.hd, h.run, h.nd, h.t1, h.t2, h.tn, fun j R M' i' N hc hS hr hi' hst => by
    by_cases hji : j = k ∧ i' = i
    · obtain ⟨rfl, rfl⟩ := hji
      rw [hm] at hS
      obtain ⟨N', hN', _⟩ := (enc_eqM (Option.some.inj hS).symm).step hmay hi' hst
      rw [hs] at hN'
      cases hN'
    · exact h.clo j R M' i' N (by omega) hS hr hi' hst, h.e1, h.e2, h.e3⟩

theorem BI.old_step {T : List (List Ins)} (hmay : ∀ l ∈ T, ∀ x ∈ l, mayB x = true) {P : Nat} {L : Nat → List (List Int)} {k i : Nat} (h : BI T P L k (k + 1) i) {M M' : Mo} (hm : (L 1)[k]? = some (encM T.length M)) (hs : stepMo T M i = some M') (hin : encM T.length M' ∈ L 1) : BI T P L k (k + 1) (i + 1) :=
  ⟨h.hd, h.run, h.nd, h.t1, h.t2, h.tn, fun j R Mj i' N hc hS hr hi' hst => by
    by_cases hji : j = k ∧ i' = i
    · obtain ⟨rfl, rfl⟩ := hji
      rw [hm] at hS
      obtain ⟨N', hN', hq⟩ := (enc_eqM (Option.some.inj hS).symm).step hmay hi' hst
      rw [hs] at hN'
      cases hN'
      rw [hq.enc]
      exact hin
    · exact h.clo j R Mj i' N (by omega) hS hr hi' hst, h.e1, h.e2, h.e3⟩

theorem BI.new_step {T : List (List Ins)} (hmay : ∀ l ∈ T, ∀ x ∈ l, mayB x = true) {P : Nat} {L : Nat → List (List Int)} {k i : Nat} (h : BI T P L k (k + 1) i) {R : List Nat} {M M' : Mo} (hr : Run T R M) (hi : i < T.length) (hm : (L 1)[k]? = some (encM T.length M)) (hs : stepMo T M i = some M') (hp : stdN T M' T.length < P) (hin : encM T.length M' ∉ L (stdN T M' T.length + 2)) :
    BI T P (upd (upd L (stdN T M' T.length + 2) (L (stdN T M' T.length + 2) ++ [encM T.length M'])) 1 (L 1 ++ [encM T.length M'])) k (k + 1) (i + 1) := by
  obtain ⟨l, hl⟩ := get_of_lt hi
  have hr' := Run.step R M M' i l hr hl hs
  generalize hRn : R ++ List.range' (offT T i + evc l (M.pc i)) (evc l (M'.pc i) - evc l (M.pc i)) = Rn at hr'
  have hstd : ∀ N : Mo, encM T.length N = encM T.length M' → stdN T N T.length = stdN T M' T.length := fun N hN => by
    have hq := (enc_eqM hN).pc
    have : ∀ k, k ≤ T.length → stdN T N k = stdN T M' k := by
      intro k
      induction k with
      | zero => intro _; rfl
      | succ k ih => intro hk; rw [stdN, stdN, ih (by omega), hq k (by omega)]
    exact this _ (Nat.le_refl _)
  generalize hpp : stdN T M' T.length = p at *
  obtain ⟨S', hS'⟩ := h.hd
  have hnt : encM T.length M' ∉ (L 1).tail := fun q => hin (by have := h.t1 Rn M' hr' q; rw [hpp] at this; exact this)
  obtain ⟨L2, hL2⟩ : ∃ L2, L2 = upd (upd L (p + 2) (L (p + 2) ++ [encM T.length M'])) 1 (L 1 ++ [encM T.length M']) := ⟨_, rfl⟩
  have h1 : L2 1 = L 1 ++ [encM T.length M'] := by rw [hL2]; exact upd_self _ _ _
  have h2 : ∀ q, q ≠ p → L2 (q + 2) = L (q + 2) := fun q hq => by rw [hL2, upd_ne _ _ (by omega), upd_ne _ _ (by omega)]
  have h2p : L2 (p + 2) = L (p + 2) ++ [encM T.length M'] := by rw [hL2, upd_ne _ _ (by omega)]; exact upd_self _ _ _
  have h0 : L2 0 = L 0 := by rw [hL2, upd_ne _ _ (by omega), upd_ne _ _ (by omega)]
  have ht : (L2 1).tail = (L 1).tail ++ [encM T.length M'] := by rw [h1, hS']; rfl
  have hget : ∀ j m, (L 1)[j]? = some m → (L2 1)[j]? = some m := fun j m hj => by rw [h1, List.getElem?_append_left (List.getElem?_eq_some_iff.1 hj).1]; exact hj
  have hback : ∀ j m, j ≤ k → (L2 1)[j]? = some m → (L 1)[j]? = some m := fun j m hj hj' => by
    rw [h1, List.getElem?_append_left (by have := (List.getElem?_eq_some_iff.1 hm).1; omega)] at hj'
    exact hj'
  rw [← hL2]
  refine ⟨⟨S' ++ [encM T.length M'], by rw [h1, hS']; rfl⟩, fun m hm' => ?_, ?_, fun R2 N hN hmem => ?_, fun q m hq hmem => ?_, fun q hq => ?_, fun j R2 Mj i' N hc hSj hrj hi' hst => ?_, by rw [h0]; exact h.e1, fun j R2 Mj hj hSj hrj hd => ?_, by rw [h0]; exact h.e3⟩
  · rw [h1] at hm'
    rcases List.mem_append.1 hm' with q | q
    · exact h.run m q
    · have : m = encM T.length M' := by simpa using q
      exact ⟨Rn, M', hr', this⟩
  · rw [ht]
    exact List.nodup_append.2 ⟨h.nd, by simp, fun a ha b hb e => by
      have : b = encM T.length M' := by simpa using hb
      rw [e, this] at ha
      exact hnt ha⟩
  · rw [ht] at hmem
    rcases List.mem_append.1 hmem with q | q
    · have := h.t1 R2 N hN q
      by_cases hqp : stdN T N T.length = p
      · rw [hqp] at this ⊢
        rw [h2p]
        exact List.mem_append_left _ this
      · rw [h2 _ hqp]
        exact this
    · have hN' : encM T.length N = encM T.length M' := by simpa using q
      rw [hstd N hN', h2p, hN']
      simp
  · rw [ht]
    by_cases hqp : q = p
    · subst hqp
      rw [h2p] at hmem
      rcases List.mem_append.1 hmem with z | z
      · exact List.mem_append_left _ (h.t2 q m hq z)
      · exact List.mem_append_right _ z
    · rw [h2 _ hqp] at hmem
      exact List.mem_append_left _ (h.t2 q m hq hmem)
  · by_cases hqp : q = p
    · subst hqp
      rw [h2p]
      exact List.nodup_append.2 ⟨h.tn q hq, by simp, fun a ha b hb e => by
        have : b = encM T.length M' := by simpa using hb
        rw [e, this] at ha
        exact hin ha⟩
    · rw [h2 _ hqp]
      exact h.tn q hq
  · have hSj' := hback j _ (by omega) hSj
    by_cases hji : j = k ∧ i' = i
    · obtain ⟨rfl, rfl⟩ := hji
      rw [hm] at hSj'
      obtain ⟨N', hN', hq⟩ := (enc_eqM (Option.some.inj hSj').symm).step hmay hi' hst
      rw [hs] at hN'
      cases hN'
      rw [hq.enc, h1]
      simp
    · rw [h1]
      exact List.mem_append_left _ (h.clo j R2 Mj i' N (by omega) hSj' hrj hi' hst)
  · rw [h0]
    exact h.e2 j R2 Mj hj (hback j _ (by omega) hSj) hrj hd

theorem BI.next {T : List (List Ins)} {P : Nat} {L : Nat → List (List Int)} {k : Nat} (h : BI T P L k (k + 1) T.length) : BI T P L (k + 1) (k + 1) 0 :=
  ⟨h.hd, h.run, h.nd, h.t1, h.t2, h.tn, fun j R M i' N hc hS hr hi' hst => h.clo j R M i' N (by omega) hS hr hi' hst, h.e1, h.e2, h.e3⟩

theorem BI.bound {T : List (List Ins)} {c : List Atm} (hz : ((chk T c).1 == 0) = true) (hT4 : T.length ≤ 4) (hsz : sizeN (evsT T 0) ≤ 2000) {P : Nat} {L : Nat → List (List Int)} {k ke i : Nat} (h : BI T P L k ke i) : (L 1).length ≤ 3532201250001 := by
  have h1 := moments_le hz hT4 hsz h.nd (fun m hm => h.run m (List.mem_of_mem_tail hm))
  rw [List.length_tail] at h1
  omega
theorem BI.rowlen {T : List (List Ins)} {P : Nat} {L : Nat → List (List Int)} {k ke i : Nat} (h : BI T P L k ke i) {p : Nat} (hp : p < P) : (L (p + 2)).length ≤ (L 1).length := by
  have := nodup_leA (h.tn p hp) (fun m hm => h.t2 p m hp hm)
  rw [List.length_tail] at this
  omega
theorem BI.lens {T : List (List Ins)} {P : Nat} {L : Nat → List (List Int)} {k ke i : Nat} (h : BI T P L k ke i) : (∀ p, p < P → ∀ m ∈ L (p + 2), m.length = 5 * T.length + 3) ∧ ∀ l ∈ L 0, l.length = 3 * T.length + 3 := by
  refine ⟨fun p hp m hm => ?_, fun l hl => ?_⟩
  · obtain ⟨R, M, _, rfl⟩ := h.run m (List.mem_of_mem_tail (h.t2 p m hp hm))
    exact enc_len _ _
  · obtain ⟨R, M, _, _, rfl⟩ := h.e1 l hl
    exact tail_len _ _

theorem BI.finish {T : List (List Ins)} {P : Nat} {L : Nat → List (List Int)} {k : Nat} (h : BI T P L k k 0) (hk : (L 1).length ≤ k) (l : List Int) : l ∈ L 0 ↔ ∃ R M, Run T R M ∧ DoneM T M ∧ l = tailM T.length M := by
  have hall : ∀ R M, Run T R M → encM T.length M ∈ L 1 := fun R M hr => by
    induction hr with
    | start => obtain ⟨S', hS⟩ := h.hd; rw [hS]; exact List.mem_cons_self ..
    | step R M M' i l hr hl hs ih =>
      obtain ⟨j, hj⟩ := List.getElem?_of_mem ih
      exact h.clo j R M i M' (.inl (by have := (List.getElem?_eq_some_iff.1 hj).1; omega)) hj hr (List.getElem?_eq_some_iff.1 hl).1 hs
  constructor
  · exact h.e1 l
  · rintro ⟨R, M, hr, hd, rfl⟩
    obtain ⟨j, hj⟩ := List.getElem?_of_mem (hall R M hr)
    exact h.e2 j R M (by have := (List.getElem?_eq_some_iff.1 hj).1; omega) hj hr hd

end Go.Proofs.Ytomijmikkbhgmab

namespace Go.Proofs.Ytomijmikkbhgmab
open Go.RowKit

theorem ty_test_ints : (25 : TypeId) ≠ 39 := by decide
theorem ty_test_rows : (25 : TypeId) ≠ 62 := by decide

structure BM (w wr : World) (box : Array Value) (P tb : Nat) (V : Nat → Value) (L : Nat → List (List Int)) : Prop where
  low : Below w.heap.size w wr
  box : wr.heap[w.heap.size]? = some (.cells box 25 (0, 0))
  rows : RowsT w.heap.size wr (P + 2) V L
  tab : TabAt w.heap.size wr tb P V

theorem BM.keep {w wr w' : World} {box : Array Value} {P tb : Nat} {V : Nat → Value} {L : Nat → List (List Int)} (h : BM w wr box P tb V L) (hb : Below wr.heap.size wr w') : BM w w' box P tb V L :=
  ⟨below_more h.low hb, (hb.block _ (heap_lt h.box)).trans h.box, h.rows.keep hb, h.tab.keep hb⟩
theorem BM.drew {w wr : World} {box : Array Value} {P tb : Nat} {V : Nat → Value} {L : Nat → List (List Int)} (h : BM w wr box P tb V L) : BM w wr.drew box P tb V L := h.keep (Below.refl _ _).drew
theorem BM.drewN {w wr : World} {box : Array Value} {P tb : Nat} {V : Nat → Value} {L : Nat → List (List Int)} (h : BM w wr box P tb V L) (n : Nat) : BM w (wr.drewN n) box P tb V L := h.keep (below_drewN (Below.refl _ _) n)
theorem BM.cell {w wr : World} {box : Array Value} {P tb : Nat} {V : Nat → Value} {L : Nat → List (List Int)} (h : BM w wr box P tb V L) (j : Nat) : wr.cell? ⟨w.heap.size, j, none⟩ = box[j]? := cell_of_row _ _ j box 25 (0, 0) h.box

theorem grown_below {w wr w2 : World} {o : Obj} {g : Option Nat} (h : Below w.heap.size w wr) (hg : (wr.alloc o).grownBy w2 g) (hlow : ∀ b, g = some b → w.heap.size ≤ b) : Below w.heap.size w w2 := by
  have hb : Below w.heap.size wr (wr.alloc o) := (below_alloc wr o).mono h.size
  refine h.trans (hb.trans ⟨hg.os, hg.tape, hg.output, hg.size, fun k hk => hg.block k ?_ ?_⟩)
  · have := h.size; simp; omega
  · intro e
    have := hlow k e.symm
    omega

/-- A moment more in a row; the table is to be told, if it is one of its rows. -/
theorem BM.app {w wr w2 : World} {box : Array Value} {P tb : Nat} {V : Nat → Value} {L : Nat → List (List Int)} (h : BM w wr box P tb V L) {i : Nat} (hi : i < P + 2) {us : List Value} (h1 : wr.ownsRow w.heap.size 39 1 (V i) (L i).length us) (h2 : ∀ (k : Nat) (u : Value) (l : List Int), us[k]? = some u → (L i)[k]? = some l → MoAt wr u l)
    {u v' : Value} {l : List Int} {o : Obj} (hu : MoAt wr u l) (hown : w2.ownsRow w.heap.size 39 1 v' ((L i).length + 1) (us ++ [u])) (hg : (wr.alloc o).grownBy w2 (V i).ownBlock) (hap : ∀ g, v'.ownBlock = some g → (V i).ownBlock = some g ∨ wr.heap.size + 1 ≤ g) :
    Below w.heap.size w w2 ∧ w2.heap[w.heap.size]? = some (.cells box 25 (0, 0)) ∧ RowsT w.heap.size w2 (P + 2) (upd V i v') (upd L i (L i ++ [l])) ∧ TabAt w.heap.size w2 tb P V := by
  obtain ⟨q1, q2⟩ := h.rows.app hi h1 h2 hu hown hg hap
  exact ⟨grown_below h.low hg fun b hb => (h1.lt b hb).1, (q2 _ _ _ ty_test_ints h.box).trans h.box, q1, h.tab.other q2⟩

/-- ends, or seen. -/
theorem BM.app2 {w wr w2 : World} {box : Array Value} {P tb : Nat} {V : Nat → Value} {L : Nat → List (List Int)} (h : BM w wr box P tb V L) {i : Nat} (hi : i < 2) {us : List Value} (h1 : wr.ownsRow w.heap.size 39 1 (V i) (L i).length us) (h2 : ∀ (k : Nat) (u : Value) (l : List Int), us[k]? = some u → (L i)[k]? = some l → MoAt wr u l)
    {u v' : Value} {l : List Int} {o : Obj} (hu : MoAt wr u l) (hown : w2.ownsRow w.heap.size 39 1 v' ((L i).length + 1) (us ++ [u])) (hg : (wr.alloc o).grownBy w2 (V i).ownBlock) (hap : ∀ g, v'.ownBlock = some g → (V i).ownBlock = some g ∨ wr.heap.size + 1 ≤ g) : BM w w2 box P tb (upd V i v') (upd L i (L i ++ [l])) := by
  obtain ⟨a, b, c, d⟩ := h.app (by omega) h1 h2 hu hown hg hap
  exact ⟨a, b, c, d.congr fun p _ => (upd_ne _ _ (by omega)).symm⟩

/-- A row of the table. -/
theorem BM.app3 {w wr w2 : World} {box : Array Value} {P tb : Nat} {V : Nat → Value} {L : Nat → List (List Int)} (h : BM w wr box P tb V L) {p : Nat} (hp : p < P) {us : List Value} (h1 : wr.ownsRow w.heap.size 39 1 (V (p + 2)) (L (p + 2)).length us) (h2 : ∀ (k : Nat) (u : Value) (l : List Int), us[k]? = some u → (L (p + 2))[k]? = some l → MoAt wr u l)
    {u v' : Value} {l : List Int} {o : Obj} (hu : MoAt wr u l) (hown : w2.ownsRow w.heap.size 39 1 v' ((L (p + 2)).length + 1) (us ++ [u])) (hg : (wr.alloc o).grownBy w2 (V (p + 2)).ownBlock) (hap : ∀ g, v'.ownBlock = some g → (V (p + 2)).ownBlock = some g ∨ wr.heap.size + 1 ≤ g) :
    BM w (w2.setCell ⟨tb, p, none⟩ v') box P tb (upd V (p + 2) v') (upd L (p + 2) (L (p + 2) ++ [l])) ∧ w2.cell? ⟨tb, p, none⟩ = some (V (p + 2)) ∧ w2.frozen? ⟨tb, p, none⟩ = false ∧ MoAt (w2.setCell ⟨tb, p, none⟩ v') u l := by
  obtain ⟨a, b, c, d⟩ := h.app (by omega) h1 h2 hu hown hg hap
  obtain ⟨_, q2⟩ := h.rows.app (by omega) h1 h2 hu hown hg hap
  have hlo := d.low (by omega)
  have hne : w.heap.size ≠ tb := fun e => by
    obtain ⟨cur, hh⟩ := own_type d (b := tb) rfl
    rw [← e, b] at hh
    cases hh
  refine ⟨⟨a.setCell (by show w.heap.size ≤ tb; exact hlo) _, (Below.heap_setCell _ _ _ _ (by show w.heap.size ≠ tb; exact hne)).trans b, c.put d p v', d.put v'⟩, (d.cell hp).1, (d.cell hp).2, ?_⟩
  refine (hu.other fun b cur hh => q2 b cur _ ty_int_ints hh).other fun b cur hh => ?_
  refine Below.heap_setCell _ _ _ _ ?_
  show b ≠ tb
  intro e
  subst e
  obtain ⟨cur', hh'⟩ := own_type d (b := b) rfl
  rw [hh] at hh'
  cases hh'

theorem rows_start {w w5 : World} {P : Nat} {g : Nat} {u : Value} {l : List Int} (hl : MoAt w5 u l) (hg : w.heap.size ≤ g) (hh : w5.heap[g]? = some (.cells #[u] 39 (0, 0))) : RowsT w.heap.size w5 (P + 2) (upd (fun _ => .slice none 0 0) 1 (.slice (some ⟨g, 0, none⟩) 1 1)) (upd (fun _ => []) 1 [l]) := by
  refine ⟨fun i hi => ?_, fun i j b hi hj hij hb => ?_⟩
  · by_cases h1 : i = 1
    · subst h1
      rw [upd_self, upd_self]
      refine ⟨[u], ⟨rfl, .inr ⟨g, 1, #[u], rfl, hg, hh, Nat.le_refl _, by unfold maxLen; omega, rfl, rfl⟩⟩, fun k z y hz hy => ?_⟩
      have hk : k = 0 := by have := (List.getElem?_eq_some_iff.1 hz).1; simp at this; omega
      subst hk
      simp at hz hy
      subst hz hy
      exact hl
    · rw [upd_ne _ _ h1, upd_ne _ _ h1]
      exact ⟨[], World.ownsRow_nil _ _ _ _, fun k z y hz => by simp at hz⟩
  · by_cases h1 : i = 1
    · subst h1
      rw [upd_ne _ _ (fun e => hij e.symm)]
      intro e; cases e
    · rw [upd_ne _ _ h1] at hb
      cases hb

end Go.Proofs.Ytomijmikkbhgmab
