import Derived.Test.YtomijmikkbhgmaaGreatSe
namespace Go.Proofs.YtomijmikkbhgmaaGreat

/-- A state goes ahead of another one. -/
def ltL : List Int → List Int → Bool
  | a :: l, b :: m => if a == b then ltL l m else decide (a < b)
  | _, _ => false
theorem ltL_eq {a b : Int} (h : (a == b) = true) (l m : List Int) : ltL (a :: l) (b :: m) = ltL l m := by rw [ltL, if_pos h]
theorem ltL_ne {a b : Int} (h : (a == b) = false) (l m : List Int) : ltL (a :: l) (b :: m) = decide (a < b) := by rw [ltL, if_neg (by simp [h])]

theorem ltL_irr (l : List Int) : ltL l l = false := by
  induction l with
  | nil => rfl
  | cons a l ih => rw [ltL_eq (by simp)]; exact ih

theorem ltL_trans {l m n : List Int} (h1 : ltL l m = true) (h2 : ltL m n = true) : ltL l n = true := by
  induction l generalizing m n with
  | nil => simp [ltL] at h1
  | cons a l ih =>
    cases m with
    | nil => simp [ltL] at h1
    | cons b m =>
      cases n with
      | nil => simp [ltL] at h2
      | cons c n =>
        cases hab : a == b
        · rw [ltL_ne hab] at h1
          have h1' : a < b := by simpa using h1
          cases hbc : b == c
          · rw [ltL_ne hbc] at h2
            have h2' : b < c := by simpa using h2
            rw [ltL_ne (by simp; omega)]
            simp; omega
          · have : b = c := by simpa using hbc
            subst this
            rw [ltL_ne hab]; exact h1
        · have : a = b := by simpa using hab
          subst this
          rw [ltL_eq (by simp)] at h1
          cases hbc : a == c
          · rw [ltL_ne hbc] at h2 ⊢; exact h2
          · rw [ltL_eq hbc] at h2 ⊢
            exact ih h1 h2

theorem ltL_asym {l m : List Int} (h : ltL l m = true) : ltL m l = false := by
  cases h2 : ltL m l
  · rfl
  · have := ltL_trans h h2; rw [ltL_irr] at this; cases this

theorem ltL_total {l m : List Int} (hl : l.length = m.length) (h1 : ltL l m = false) (h2 : ltL m l = false) : l = m := by
  induction l generalizing m with
  | nil => cases m with
    | nil => rfl
    | cons b m => simp at hl
  | cons a l ih =>
    cases m with
    | nil => simp at hl
    | cons b m =>
      cases hab : a == b
      · rw [ltL_ne hab] at h1
        have hba : (b == a) = false := by simp at hab ⊢; omega
        rw [ltL_ne hba] at h2
        simp at h1 h2 hab; omega
      · have : a = b := by simpa using hab
        subst this
        rw [ltL_eq (by simp)] at h1 h2
        rw [ih (by simpa using hl) h1 h2]

theorem cmpL_lt {l m : List Int} (hl : l.length = m.length) : decide (cmpL l m < 0) = ltL l m := by
  induction l generalizing m with
  | nil => cases m <;> rfl
  | cons a l ih =>
    cases m with
    | nil => rfl
    | cons b m =>
      cases hab : a == b
      · rw [cmpL_ne hab, ltL_ne hab]
        rw [Bool.eq_iff_iff]; first | (simp; done) | (simp; omega)
      · rw [cmpL_eq hab, ltL_eq hab]
        exact ih (by simpa using hl)
theorem cmpL_gt {l m : List Int} (hl : l.length = m.length) : decide (0 < cmpL l m) = ltL m l := by
  induction l generalizing m with
  | nil => cases m <;> rfl
  | cons a l ih =>
    cases m with
    | nil => rfl
    | cons b m =>
      cases hab : a == b
      · have hba : (b == a) = false := by simp at hab ⊢; omega
        rw [cmpL_ne hab, ltL_ne hba]
        rw [Bool.eq_iff_iff]; first | (simp; done) | (simp; omega)
      · have e : a = b := by simpa using hab
        have hba : (b == a) = true := by simp [e]
        rw [cmpL_eq hab, ltL_eq hba]
        exact ih (by simpa using hl)
theorem cmpL_zero {l m : List Int} (hl : l.length = m.length) : cmpL l m = 0 ↔ l = m := by
  have h1 := cmpL_lt hl
  have h2 := cmpL_gt hl
  constructor
  · intro h
    rw [h] at h1 h2
    exact ltL_total hl (by rw [← h1]; rfl) (by rw [← h2]; rfl)
  · intro h
    subst h
    rw [ltL_irr] at h1 h2
    simp at h1 h2; omega

/-- One state more among sorted ones. -/
def insO : List (List Int × Nat) → List Int → List (List Int × Nat)
  | [], s => [(s, 1)]
  | p :: K, s => if ltL p.1 s then p :: insO K s else if ltL s p.1 then (s, 1) :: p :: K else (p.1, p.2 + 1) :: K

def tailO (s : List Int) : List (List Int × Nat) → List (List Int × Nat)
  | [] => [(s, 1)]
  | p :: B => if ltL s p.1 then (s, 1) :: p :: B else (p.1, p.2 + 1) :: B
theorem insO_split (A B : List (List Int × Nat)) (s : List Int) (hA : ∀ p ∈ A, ltL p.1 s = true) (hB : ∀ p, B.head? = some p → ltL p.1 s = false) :
    insO (A ++ B) s = A ++ tailO s B := by
  induction A with
  | nil =>
    cases B with
    | nil => rfl
    | cons p B =>
      show insO (p :: B) s = _
      rw [insO, hB p rfl]; rfl
  | cons a A ih =>
    rw [List.cons_append, insO, hA a (List.mem_cons_self ..), if_pos rfl, ih (fun p hp => hA p (List.mem_cons_of_mem _ hp))]; rfl

def SrtK : List (List Int × Nat) → Prop
  | [] => True
  | p :: K => (∀ q ∈ K, ltL p.1 q.1 = true) ∧ SrtK K

def LenK (n : Nat) (K : List (List Int × Nat)) : Prop := ∀ p ∈ K, p.1.length = n

theorem insO_mem {K : List (List Int × Nat)} {s : List Int} {q : List Int × Nat} (h : q ∈ insO K s) : (∃ p ∈ K, p.1 = q.1) ∨ q.1 = s := by
  induction K with
  | nil => simp [insO] at h; exact .inr (by rw [h])
  | cons p K ih =>
    rw [insO] at h
    split at h
    · rcases List.mem_cons.1 h with rfl | h
      · exact .inl ⟨q, List.mem_cons_self .., rfl⟩
      · rcases ih h with ⟨p', h1, h2⟩ | h1
        · exact .inl ⟨p', List.mem_cons_of_mem _ h1, h2⟩
        · exact .inr h1
    · split at h
      · rcases List.mem_cons.1 h with rfl | h
        · exact .inr rfl
        · exact .inl ⟨q, h, rfl⟩
      · rcases List.mem_cons.1 h with rfl | h
        · exact .inl ⟨p, List.mem_cons_self .., rfl⟩
        · exact .inl ⟨q, List.mem_cons_of_mem _ h, rfl⟩

theorem insO_len {n : Nat} {K : List (List Int × Nat)} {s : List Int} (h : LenK n K) (hs : s.length = n) : LenK n (insO K s) := by
  intro q hq
  rcases insO_mem hq with ⟨p, h1, h2⟩ | h1
  · rw [← h2]; exact h p h1
  · rw [h1]; exact hs

theorem insO_srt {n : Nat} {K : List (List Int × Nat)} {s : List Int} (h : SrtK K) (hl : LenK n K) (_hs : s.length = n) : SrtK (insO K s) := by
  induction K with
  | nil => exact ⟨fun q hq => (nomatch hq), trivial⟩
  | cons p K ih =>
    rw [insO]
    cases h1 : ltL p.1 s
    · rw [if_neg (by simp)]
      cases h2 : ltL s p.1
      · rw [if_neg (by simp)]
        exact ⟨h.1, h.2⟩
      · rw [if_pos rfl]
        refine ⟨fun q hq => ?_, h⟩
        rcases List.mem_cons.1 hq with rfl | hq
        · exact h2
        · exact ltL_trans h2 (h.1 q hq)
    · rw [if_pos rfl]
      refine ⟨fun q hq => ?_, ih h.2 (fun q hq => hl q (List.mem_cons_of_mem _ hq))⟩
      rcases insO_mem hq with ⟨p', k1, k2⟩ | k1
      · rw [← k2]; exact h.1 p' k1
      · rw [k1]; exact h1

/-- How often a state is counted. -/
def cnOu : List (List Int × Nat) → List Int → Nat
  | [], _ => 0
  | p :: K, t => (if p.1 == t then p.2 else 0) + cnOu K t
def cnSt : List (List Int) → List Int → Nat
  | [], _ => 0
  | s :: L, t => (if s == t then 1 else 0) + cnSt L t

theorem insO_cnt {n : Nat} {K : List (List Int × Nat)} {s : List Int} (hl : LenK n K) (hs : s.length = n) (t : List Int) : cnOu (insO K s) t = cnOu K t + (if s == t then 1 else 0) := by
  induction K with
  | nil => simp [insO, cnOu]
  | cons p K ih =>
    have hpl := hl p (List.mem_cons_self ..)
    rw [insO]
    cases h1 : ltL p.1 s
    · rw [if_neg (by simp)]
      cases h2 : ltL s p.1
      · rw [if_neg (by simp)]
        have : p.1 = s := ltL_total (by omega) h1 h2
        rw [cnOu, cnOu, this]
        cases s == t <;> simp <;> omega
      · rw [if_pos rfl, cnOu]; simp only; omega
    · rw [if_pos rfl, cnOu, cnOu, ih (fun q hq => hl q (List.mem_cons_of_mem _ hq))]; omega

def outK (L : List (List Int)) : List (List Int × Nat) := L.foldl insO []

theorem foldO_spec {n : Nat} (L : List (List Int)) (hL : ∀ s ∈ L, s.length = n) (K : List (List Int × Nat)) (h1 : SrtK K) (h2 : LenK n K) (h3 : ∀ p ∈ K, 1 ≤ p.2) :
    SrtK (L.foldl insO K) ∧ LenK n (L.foldl insO K) ∧ (∀ p ∈ L.foldl insO K, 1 ≤ p.2) ∧ ∀ t, cnOu (L.foldl insO K) t = cnOu K t + cnSt L t := by
  induction L generalizing K with
  | nil => exact ⟨h1, h2, h3, fun t => by simp [cnSt]⟩
  | cons s L ih =>
    have hs := hL s (List.mem_cons_self ..)
    have h3' : ∀ p ∈ insO K s, 1 ≤ p.2 := by
      clear ih h1 h2
      induction K with
      | nil => intro p hp; simp [insO] at hp; rw [hp]; exact Nat.le_refl _
      | cons q K ih =>
        intro p hp
        rw [insO] at hp
        split at hp
        · rcases List.mem_cons.1 hp with rfl | hp
          · exact h3 _ (List.mem_cons_self ..)
          · exact ih (fun p hp => h3 p (List.mem_cons_of_mem _ hp)) p hp
        · split at hp
          · rcases List.mem_cons.1 hp with rfl | hp
            · exact Nat.le_refl _
            · exact h3 p hp
          · rcases List.mem_cons.1 hp with rfl | hp
            · show 1 ≤ q.2 + 1; omega
            · exact h3 p (List.mem_cons_of_mem _ hp)
    obtain ⟨a, b, c, d⟩ := ih (fun t ht => hL t (List.mem_cons_of_mem _ ht)) (insO K s) (insO_srt h1 h2 hs) (insO_len h2 hs) h3'
    refine ⟨a, b, c, fun t => ?_⟩
    show cnOu (L.foldl insO (insO K s)) t = _
    rw [d t, insO_cnt h2 hs, cnSt]; omega

theorem outK_spec {n : Nat} {L : List (List Int)} (hL : ∀ s ∈ L, s.length = n) : SrtK (outK L) ∧ LenK n (outK L) ∧ (∀ p ∈ outK L, 1 ≤ p.2) ∧ ∀ t, cnOu (outK L) t = cnSt L t := by
  obtain ⟨a, b, c, d⟩ := foldO_spec L hL [] trivial (fun p hp => by cases hp) (fun p hp => by cases hp)
  exact ⟨a, b, c, fun t => by unfold outK; rw [d t]; simp [cnOu]⟩

theorem insO_length (K : List (List Int × Nat)) (s : List Int) : (insO K s).length ≤ K.length + 1 := by
  induction K with
  | nil => exact Nat.le_refl _
  | cons p K ih =>
    rw [insO]
    split
    · simp only [List.length_cons]; omega
    · split
      · simp only [List.length_cons]; omega
      · simp only [List.length_cons]; omega
theorem outK_len (L : List (List Int)) : (outK L).length ≤ L.length := by
  have : ∀ (L : List (List Int)) (K : List (List Int × Nat)), (L.foldl insO K).length ≤ K.length + L.length := by
    intro L
    induction L with
    | nil => intro K; exact Nat.le_refl _
    | cons s L ih =>
      intro K
      have h1 := ih (insO K s)
      have h2 := insO_length K s
      rw [List.foldl_cons, List.length_cons]; omega
  have := this L []
  simpa [outK] using this

theorem cnOu_pos {K : List (List Int × Nat)} {t : List Int} (h : 1 ≤ cnOu K t) : ∃ p ∈ K, p.1 = t := by
  induction K with
  | nil => simp [cnOu] at h
  | cons p K ih =>
    rw [cnOu] at h
    cases hp : p.1 == t
    · rw [hp] at h
      obtain ⟨q, h1, h2⟩ := ih (by simpa using h)
      exact ⟨q, List.mem_cons_of_mem _ h1, h2⟩
    · exact ⟨p, List.mem_cons_self .., by simpa using hp⟩
theorem cnOu_zero {K : List (List Int × Nat)} {t : List Int} (h : ∀ q ∈ K, q.1 ≠ t) : cnOu K t = 0 := by
  induction K with
  | nil => rfl
  | cons p K ih =>
    have hp : (p.1 == t) = false := by simpa using h p (List.mem_cons_self ..)
    rw [cnOu, ih (fun q hq => h q (List.mem_cons_of_mem _ hq)), hp]; rfl
theorem cnOu_at {K : List (List Int × Nat)} (h : SrtK K) {p : List Int × Nat} (hp : p ∈ K) : cnOu K p.1 = p.2 := by
  induction K with
  | nil => cases hp
  | cons q K ih =>
    rw [cnOu]
    rcases List.mem_cons.1 hp with rfl | hp
    · rw [cnOu_zero (fun q hq e => by have := h.1 q hq; rw [e, ltL_irr] at this; cases this)]; simp
    · have hne : (q.1 == p.1) = false := by
        cases e : q.1 == p.1
        · rfl
        · have e' : q.1 = p.1 := by simpa using e
          have := h.1 p hp
          rw [e', ltL_irr] at this; cases this
      rw [hne, ih h.2 hp]; simp
theorem cnSt_pos {L : List (List Int)} {t : List Int} : 1 ≤ cnSt L t ↔ t ∈ L := by
  induction L with
  | nil => simp [cnSt]
  | cons s L ih =>
    rw [cnSt, List.mem_cons]
    cases hs : s == t
    · have : ¬ t = s := fun e => by rw [e] at hs; simp at hs
      simp [ih, this]
    · have : t = s := by simp at hs; exact hs.symm
      simp [this]

theorem srt_get {K : List (List Int × Nat)} (h : SrtK K) {i j : Nat} {p q : List Int × Nat} (hij : i < j) (hi : K[i]? = some p) (hj : K[j]? = some q) : ltL p.1 q.1 = true := by
  induction K generalizing i j with
  | nil => simp at hi
  | cons a K ih =>
    cases j with
    | zero => omega
    | succ j =>
      cases i with
      | zero =>
        simp at hi hj
        rw [← hi]; exact h.1 q (List.mem_of_getElem? hj)
      | succ i =>
        rw [List.getElem?_cons_succ] at hi hj
        exact ih h.2 (by omega) hi hj

/-! the least one that is greater -/
def notGt (than : Option (List Int)) (l : List Int) : Bool := match than with
  | none => false
  | some t => decide (cmpL l t ≤ 0)
theorem lstep_some (than best : Option (List Int)) (l : List Int) : lstep than best (some l) = if notGt than l then best else match best with
    | none => some l
    | some b => if decide (0 ≤ cmpL l b) then best else some l := by
  cases than <;> cases best <;> rfl
theorem notGt_iff {n : Nat} {than : Option (List Int)} {l : List Int} (hth : ∀ t, than = some t → t.length = n) (hll : l.length = n) : notGt than l = true ↔ ∃ t, than = some t ∧ ltL t l = false := by
  cases than with
  | none => simp [notGt]
  | some t =>
    have := cmpL_gt (l := l) (m := t) (by rw [hll, hth t rfl])
    simp only [notGt, decide_eq_true_eq, Option.some.injEq, exists_eq_left']
    rw [← this]; simp

theorem leastO_spec {n : Nat} (than : Option (List Int)) (hth : ∀ t, than = some t → t.length = n) (L : List (Option (List Int))) (hL : ∀ l, some l ∈ L → l.length = n) (best : Option (List Int)) (hb : ∀ l, best = some l → l.length = n) :
    (∀ m, leastO than best L = some m → m.length = n ∧ ((best = some m) ∨ (some m ∈ L ∧ ∀ t, than = some t → ltL t m = true)) ∧ (∀ b, best = some b → ltL b m = false) ∧ ∀ l, some l ∈ L → (∀ t, than = some t → ltL t l = true) → ltL l m = false) ∧
    (leastO than best L = none → best = none ∧ ∀ l, some l ∈ L → ∃ t, than = some t ∧ ltL t l = false) := by
  induction L generalizing best with
  | nil =>
    refine ⟨fun m hm => ?_, fun h => ⟨h, fun l hl => by cases hl⟩⟩
    have hm' : best = some m := hm
    exact ⟨hb m hm', .inl hm', fun b hb' => by rw [hm'] at hb'; cases hb'; exact ltL_irr _, fun l hl => by cases hl⟩
  | cons o L ih =>
    have hL' : ∀ l, some l ∈ L → l.length = n := fun l hl => hL l (List.mem_cons_of_mem _ hl)
    -- what the step makes of o
    have hstep : (lstep than best o = best ∧ ((o = none) ∨ ∃ l, o = some l ∧ ((∃ t, than = some t ∧ ltL t l = false) ∨ ((∀ t, than = some t → ltL t l = true) ∧ ∃ b, best = some b ∧ ltL l b = false)))) ∨
        (∃ l, o = some l ∧ lstep than best o = some l ∧ (∀ t, than = some t → ltL t l = true) ∧ ∀ b, best = some b → ltL l b = true) := by
      cases o with
      | none => exact .inl ⟨rfl, .inl rfl⟩
      | some l =>
        have hll := hL l (List.mem_cons_self ..)
        have htest := notGt_iff hth hll
        have hls := lstep_some than best l
        cases ht : notGt than l
        · have hno : ∀ t, than = some t → ltL t l = true := fun t e => by
            cases h2 : ltL t l
            · have := htest.2 ⟨t, e, h2⟩; rw [ht] at this; cases this
            · rfl
          rw [ht, if_neg (by simp)] at hls
          cases hbe : best with
          | none =>
            rw [hbe] at hls
            exact .inr ⟨l, rfl, hls, hno, fun b e => by cases e⟩
          | some b =>
            rw [hbe] at hls
            have hc := cmpL_lt (l := l) (m := b) (by rw [hll, hb b hbe])
            simp only at hls
            cases hlt : ltL l b
            · rw [hlt] at hc
              have : (0 : Int) ≤ cmpL l b := by simpa using hc
              exact .inl ⟨by rw [hls, if_pos (by simpa using this)], .inr ⟨l, rfl, .inr ⟨hno, b, rfl, hlt⟩⟩⟩
            · rw [hlt] at hc
              have : cmpL l b < 0 := by simpa using hc
              refine .inr ⟨l, rfl, by rw [hls, if_neg (by simp; omega)], hno, fun b' e => by cases e; exact hlt⟩
        · refine .inl ⟨?_, .inr ⟨l, rfl, .inl (htest.1 ht)⟩⟩
          rw [hls, ht, if_pos rfl]
    have hb2 : ∀ l, lstep than best o = some l → l.length = n := by
      intro l hl
      rcases hstep with ⟨h1, _⟩ | ⟨l', h1, h2, _⟩
      · exact hb l (h1 ▸ hl)
      · rw [h2] at hl
        have e : l' = l := by simpa using hl
        exact hL l (by rw [h1, e]; exact List.mem_cons_self ..)
    obtain ⟨i1, i2⟩ := ih hL' (lstep than best o) hb2
    refine ⟨fun m hm => ?_, fun hnone => ?_⟩
    · obtain ⟨j0, j1, j2, j3⟩ := i1 m hm
      rcases hstep with ⟨e1, e2⟩ | ⟨l', e1, e2, e3, e4⟩
      · rw [e1] at j1 j2
        refine ⟨j0, ?_, j2, fun l hl hgt => ?_⟩
        · rcases j1 with j | ⟨j, j'⟩
          · exact .inl j
          · exact .inr ⟨List.mem_cons_of_mem _ j, j'⟩
        · rcases List.mem_cons.1 hl with e | hl
          · rcases e2 with e2 | ⟨l2, e2, e3⟩
            · rw [e2] at e; cases e
            · rw [e2] at e; cases e
              rcases e3 with ⟨t, t1, t2⟩ | ⟨_, b, b1, b2⟩
              · have := hgt t t1; rw [t2] at this; cases this
              · have h3 := j2 b b1
                cases hlm : ltL l m
                · rfl
                · have hbl : b.length = n := hb b b1
                  have hll : l.length = n := hL l hl
                  cases h4 : ltL b l
                  · have : l = b := ltL_total (by omega) b2 h4
                    rw [this] at hlm; rw [h3] at hlm; cases hlm
                  · have := ltL_trans h4 hlm; rw [h3] at this; cases this
          · exact j3 l hl hgt
      · rw [e2] at j1 j2
        refine ⟨j0, ?_, fun b hb' => ?_, fun l hl hgt => ?_⟩
        · rcases j1 with j | ⟨j, j'⟩
          · cases j; exact .inr ⟨by rw [e1]; exact List.mem_cons_self .., e3⟩
          · exact .inr ⟨List.mem_cons_of_mem _ j, j'⟩
        · cases hbm : ltL b m
          · rfl
          · have := ltL_trans (e4 b hb') hbm; rw [j2 l' rfl] at this; cases this
        · rcases List.mem_cons.1 hl with e | hl
          · rw [e1] at e
            have e' : l = l' := by simpa using e
            exact j2 l (by rw [e'])
          · exact j3 l hl hgt
    · obtain ⟨k1, k2⟩ := i2 hnone
      rcases hstep with ⟨e1, e2⟩ | ⟨l', e1, e2, e3, e4⟩
      · rw [e1] at k1
        refine ⟨k1, fun l hl => ?_⟩
        rcases List.mem_cons.1 hl with e | hl
        · rcases e2 with e2 | ⟨l2, e2, e3⟩
          · rw [e2] at e; cases e
          · rw [e2] at e; cases e
            rcases e3 with e3 | ⟨_, b, b1, _⟩
            · exact e3
            · rw [k1] at b1; cases b1
        · exact k2 l hl
      · rw [e2] at k1; cases k1

/-- The next state is the next outcome. -/
theorem least_next {n : Nat} {L : List (Option (List Int))} (hL : ∀ l, some l ∈ L → l.length = n) (than : Option (List Int)) (j : Nat) (hth : (than = none ∧ j = 0) ∨ ∃ p i, j = i + 1 ∧ than = some p.1 ∧ (outK (L.filterMap id))[i]? = some p) :
    leastO than none L = ((outK (L.filterMap id))[j]?).map (·.1) := by
  have hmem : ∀ {l : List Int}, l ∈ L.filterMap id ↔ some l ∈ L := by intro l; simp [List.mem_filterMap]
  obtain ⟨s1, s2, s3, s4⟩ := outK_spec (n := n) (L := L.filterMap id) (fun s hs => hL s (hmem.1 hs))
  generalize hK : outK (L.filterMap id) = K at hth s1 s2 s3 s4
  have hkey : ∀ {l : List Int}, some l ∈ L → ∃ p ∈ K, p.1 = l := fun {l} hl => cnOu_pos (by rw [s4]; exact cnSt_pos.2 (hmem.2 hl))
  have hin : ∀ {p : List Int × Nat}, p ∈ K → some p.1 ∈ L := fun {p} hp => hmem.1 (cnSt_pos.1 (by rw [← s4, cnOu_at s1 hp]; exact s3 p hp))
  have hthn : ∀ t, than = some t → t.length = n := by
    intro t ht
    rcases hth with ⟨h, _⟩ | ⟨p, i, _, h, h2⟩
    · rw [h] at ht; cases ht
    · rw [h] at ht; cases ht; exact s2 p (List.mem_of_getElem? h2)
  obtain ⟨l1, l2⟩ := leastO_spec than hthn L hL none (fun l h => by cases h)
  -- which of K are greater than 'than'
  have hgt : ∀ {i : Nat} {p : List Int × Nat}, K[i]? = some p → ((∀ t, than = some t → ltL t p.1 = true) ↔ j ≤ i) := by
    intro i p hp
    rcases hth with ⟨h, hj⟩ | ⟨q, i', hj, h, h2⟩
    · rw [h]; constructor
      · intro _; omega
      · intro _ t e; cases e
    · rw [h]
      constructor
      · intro hg
        have hg' := hg q.1 rfl
        refine Nat.le_of_not_lt fun hlt => ?_
        rcases Nat.lt_or_eq_of_le (by omega : i ≤ i') with h3 | h3
        · have := srt_get s1 h3 hp h2
          rw [ltL_asym this] at hg'; cases hg'
        · subst h3
          rw [hp] at h2; cases h2
          rw [ltL_irr] at hg'; cases hg'
      · intro hji t e
        cases e
        exact srt_get s1 (by omega) h2 hp
  cases hlo : leastO than none L with
  | none =>
    obtain ⟨_, k2⟩ := l2 hlo
    cases hj : K[j]? with
    | none => rfl
    | some p =>
      obtain ⟨t, t1, t2⟩ := k2 p.1 (hin (List.mem_of_getElem? hj))
      have := (hgt hj).2 (Nat.le_refl _) t t1
      rw [t2] at this; cases this
  | some m =>
    obtain ⟨m0, m1, _, m3⟩ := l1 m hlo
    rcases m1 with e | ⟨mL, mgt⟩
    · cases e
    · obtain ⟨p, hp, rfl⟩ := hkey mL
      obtain ⟨i, hi⟩ := List.mem_iff_getElem?.1 hp
      have hji := (hgt hi).1 mgt
      have hjlt : j < K.length := Nat.lt_of_le_of_lt hji (List.getElem?_eq_some_iff.1 hi).1
      obtain ⟨q, hq⟩ : ∃ q, K[j]? = some q := ⟨K[j], List.getElem?_eq_getElem hjlt⟩
      rcases Nat.lt_or_eq_of_le hji with h3 | h3
      · have h4 := m3 q.1 (hin (List.mem_of_getElem? hq)) ((hgt hq).2 (Nat.le_refl _))
        rw [srt_get s1 h3 hq hi] at h4; cases h4
      · subst h3
        rw [hi]; rfl

end Go.Proofs.YtomijmikkbhgmaaGreat
