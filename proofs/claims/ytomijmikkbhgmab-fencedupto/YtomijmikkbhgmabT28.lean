import Derived.Test.YtomijmikkbhgmabT22
import Derived.Test.YtomijmikkbhgmabT26
import Derived.Test.YtomijmikkbhgmabT19
namespace Go.Proofs.Ytomijmikkbhgmab

/-- A state goes ahead of another one. -/
def ltL : List Int → List Int → Bool
  | a :: l, b :: m => if a == b then ltL l m else decide (a < b)
  | _, _ => false
theorem ltL_eq {a b : Int} (h : (a == b) = true) (l m : List Int) : ltL (a :: l) (b :: m) = ltL l m := by rw [ltL, if_pos h]
theorem ltL_ne {a b : Int} (h : (a == b) = false) (l m : List Int) : ltL (a :: l) (b :: m) = decide (a < b) := by rw [ltL, if_neg (by simp [h])]

theorem ltL_irr (l : List Int) : ltL l l = false := by
  induction l with
  | nil => rfl
  | cons a l ih => rw [ltL_eq (by simp)]; exact ih

theorem ltL_trans {l m n : List Int} (h1 : ltL l m = true) (h2 : ltL m n = true) : ltL l n = true := by
  induction l generalizing m n with
  | nil => simp [ltL] at h1
  | cons a l ih =>
    cases m with
    | nil => simp [ltL] at h1
    | cons b m =>
      cases n with
      | nil => simp [ltL] at h2
      | cons c n =>
        cases hab : a == b
        · rw [ltL_ne hab] at h1
          have h1' : a < b := by simpa using h1
          cases hbc : b == c
          · rw [ltL_ne hbc] at h2
            have h2' : b < c := by simpa using h2
            rw [ltL_ne (by simp; omega)]
            simp; omega
          · have : b = c := by simpa using hbc
            subst this
            rw [ltL_ne hab]; exact h1
        · have : a = b := by simpa using hab
          subst this
          rw [ltL_eq (by simp)] at h1
          cases hbc : a == c
          · rw [ltL_ne hbc] at h2 ⊢; exact h2
          · rw [ltL_eq hbc] at h2 ⊢
            exact ih h1 h2

theorem ltL_asym {l m : List Int} (h : ltL l m = true) : ltL m l = false := by
  cases h2 : ltL m l
  · rfl
  · have := ltL_trans h h2; rw [ltL_irr] at this; cases this

theorem ltL_total {l m : List Int} (hl : l.length = m.length) (h1 : ltL l m = false) (h2 : ltL m l = false) : l = m := by
  induction l generalizing m with
  | nil => cases m with
    | nil => rfl
    | cons b m => simp at hl
  | cons a l ih =>
    cases m with
    | nil => simp at hl
    | cons b m =>
      cases hab : a == b
      · rw [ltL_ne hab] at h1
        have hba : (b == a) = false := by simp at hab ⊢; omega
        rw [ltL_ne hba] at h2
        simp at h1 h2 hab; omega
      · have : a = b := by simpa using hab
        subst this
        rw [ltL_eq (by simp)] at h1 h2
        rw [ih (by simpa using hl) h1 h2]

theorem cmpL_lt {l m : List Int} (hl : l.length = m.length) : decide (cmpL l m < 0) = ltL l m := by
  induction l generalizing m with
  | nil => cases m <;> rfl
  | cons a l ih =>
    cases m with
    | nil => rfl
    | cons b m =>
      cases hab : a == b
      · rw [cmpL_ne hab, ltL_ne hab]
        rw [Bool.eq_iff_iff]; first | (simp; done) | (simp; omega)
      · rw [cmpL_eq hab, ltL_eq hab]
        exact ih (by simpa using hl)
theorem cmpL_gt {l m : List Int} (hl : l.length = m.length) : decide (0 < cmpL l m) = ltL m l := by
  induction l generalizing m with
  | nil => cases m <;> rfl
  | cons a l ih =>
    cases m with
    | nil => rfl
    | cons b m =>
      cases hab : a == b
      · have hba : (b == a) = false := by simp at hab ⊢; omega
        rw [cmpL_ne hab, ltL_ne hba]
        rw [Bool.eq_iff_iff]; first | (simp; done) | (simp; omega)
      · have e : a = b := by simpa using hab
        have hba : (b == a) = true := by simp [e]
        rw [cmpL_eq hab, ltL_eq hba]
        exact ih (by simpa using hl)
theorem cmpL_zero {l m : List Int} (hl : l.length = m.length) : cmpL l m = 0 ↔ l = m := by
  have h1 := cmpL_lt hl
  have h2 := cmpL_gt hl
  constructor
  · intro h
    rw [h] at h1 h2
    exact ltL_total hl (by rw [← h1]; rfl) (by rw [← h2]; rfl)
  · intro h
    subst h
    rw [ltL_irr] at h1 h2
    simp at h1 h2; omega

/-- One state more among sorted ones. -/
def insO : List (List Int × Nat) → List Int → List (List Int × Nat)
  | [], s => [(s, 1)]
  | p :: K, s => if ltL p.1 s then p :: insO K s else if ltL s p.1 then (s, 1) :: p :: K else (p.1, p.2 + 1) :: K

def tailO (s : List Int) : List (List Int × Nat) → List (List Int × Nat)
  | [] => [(s, 1)]
  | p :: B => if ltL s p.1 then (s, 1) :: p :: B else (p.1, p.2 + 1) :: B
theorem insO_split (A B : List (List Int × Nat)) (s : List Int) (hA : ∀ p ∈ A, ltL p.1 s = true) (hB : ∀ p, B.head? = some p → ltL p.1 s = false) :
    insO (A ++ B) s = A ++ tailO s B := by
  induction A with
  | nil =>
    cases B with
    | nil => rfl
    | cons p B =>
      show insO (p :: B) s = _
      rw [insO, hB p rfl]; rfl
  | cons a A ih =>
    rw [List.cons_append, insO, hA a (List.mem_cons_self ..), if_pos rfl, ih (fun p hp => hA p (List.mem_cons_of_mem _ hp))]; rfl

def SrtK : List (List Int × Nat) → Prop
  | [] => True
  | p :: K => (∀ q ∈ K, ltL p.1 q.1 = true) ∧ SrtK K

def LenK (n : Nat) (K : List (List Int × Nat)) : Prop := ∀ p ∈ K, p.1.length = n

theorem insO_mem {K : List (List Int × Nat)} {s : List Int} {q : List Int × Nat} (h : q ∈ insO K s) : (∃ p ∈ K, p.1 = q.1) ∨ q.1 = s := by
  induction K with
  | nil => simp [insO] at h; exact .inr (by rw [h])
  | cons p K ih =>
    rw [insO] at h
    split at h
    · rcases List.mem_cons.1 h with rfl | h
      · exact .inl ⟨q, List.mem_cons_self .., rfl⟩
      · rcases ih h with ⟨p', h1, h2⟩ | h1
        · exact .inl ⟨p', List.mem_cons_of_mem _ h1, h2⟩
        · exact .inr h1
    · split at h
      · rcases List.mem_cons.1 h with rfl | h
        · exact .inr rfl
        · exact .inl ⟨q, h, rfl⟩
      · rcases List.mem_cons.1 h with rfl | h
        · exact .inl ⟨p, List.mem_cons_self .., rfl⟩
        · exact .inl ⟨q, List.mem_cons_of_mem _ h, rfl⟩

theorem insO_len {n : Nat} {K : List (List Int × Nat)} {s : List Int} (h : LenK n K) (hs : s.length = n) : LenK n (insO K s) := by
  intro q hq
  rcases insO_mem hq with ⟨p, h1, h2⟩ | h1
  · rw [← h2]; exact h p h1
  · rw [h1]; exact hs

theorem insO_srt {n : Nat} {K : List (List Int × Nat)} {s : List Int} (h : SrtK K) (hl : LenK n K) (_hs : s.length = n) : SrtK (insO K s) := by
  induction K with
  | nil => exact ⟨fun q hq => (nomatch hq), trivial⟩
  | cons p K ih =>
    rw [insO]
    cases h1 : ltL p.1 s
    · rw [if_neg (by simp)]
      cases h2 : ltL s p.1
      · rw [if_neg (by simp)]
        exact ⟨h.1, h.2⟩
      · rw [if_pos rfl]
        refine ⟨fun q hq => ?_, h⟩
        rcases List.mem_cons.1 hq with rfl | hq
        · exact h2
        · exact ltL_trans h2 (h.1 q hq)
    · rw [if_pos rfl]
      refine ⟨fun q hq => ?_, ih h.2 (fun q hq => hl q (List.mem_cons_of_mem _ hq))⟩
      rcases insO_mem hq with ⟨p', k1, k2⟩ | k1
      · rw [← k2]; exact h.1 p' k1
      · rw [k1]; exact h1

/-- How often a state is counted. -/
def cnOu : List (List Int × Nat) → List Int → Nat
  | [], _ => 0
  | p :: K, t => (if p.1 == t then p.2 else 0) + cnOu K t
def cnSt : List (List Int) → List Int → Nat
  | [], _ => 0
  | s :: L, t => (if s == t then 1 else 0) + cnSt L t

theorem insO_cnt {n : Nat} {K : List (List Int × Nat)} {s : List Int} (hl : LenK n K) (hs : s.length = n) (t : List Int) : cnOu (insO K s) t = cnOu K t + (if s == t then 1 else 0) := by
  induction K with
  | nil => simp [insO, cnOu]
  | cons p K ih =>
    have hpl := hl p (List.mem_cons_self ..)
    rw [insO]
    cases h1 : ltL p.1 s
    · rw [if_neg (by simp)]
      cases h2 : ltL s p.1
      · rw [if_neg (by simp)]
        have : p.1 = s := ltL_total (by omega) h1 h2
        rw [cnOu, cnOu, this]
        cases s == t <;> simp <;> omega
      · rw [if_pos rfl, cnOu]; simp only; omega
    · rw [if_pos rfl, cnOu, cnOu, ih (fun q hq => hl q (List.mem_cons_of_mem _ hq))]; omega

def outK (L : List (List Int)) : List (List Int × Nat) := L.foldl insO []

theorem foldO_spec {n : Nat} (L : List (List Int)) (hL : ∀ s ∈ L, s.length = n) (K : List (List Int × Nat)) (h1 : SrtK K) (h2 : LenK n K) (h3 : ∀ p ∈ K, 1 ≤ p.2) :
    SrtK (L.foldl insO K) ∧ LenK n (L.foldl insO K) ∧ (∀ p ∈ L.foldl insO K, 1 ≤ p.2) ∧ ∀ t, cnOu (L.foldl insO K) t = cnOu K t + cnSt L t := by
  induction L generalizing K with
  | nil => exact ⟨h1, h2, h3, fun t => by simp [cnSt]⟩
  | cons s L ih =>
    have hs := hL s (List.mem_cons_self ..)
    have h3' : ∀ p ∈ insO K s, 1 ≤ p.2 := by
      clear ih h1 h2
      induction K with
      | nil => intro p hp; simp [insO] at hp; rw [hp]; exact Nat.le_refl _
      | cons q K ih =>
        intro p hp
        rw [insO] at hp
        split at hp
        · rcases List.mem_cons.1 hp with rfl | hp
          · exact h3 _ (List.mem_cons_self ..)
          · exact ih (fun p hp => h3 p (List.mem_cons_of_mem _ hp)) p hp
        · split at hp
          · rcases List.mem_cons.1 hp with rfl | hp
            · exact Nat.le_refl _
            · exact h3 p hp
          · rcases List.mem_cons.1 hp with rfl | hp
            · show 1 ≤ q.2 + 1; omega
            · exact h3 p (List.mem_cons_of_mem _ hp)
    obtain ⟨a, b, c, d⟩ := ih (fun t ht => hL t (List.mem_cons_of_mem _ ht)) (insO K s) (insO_srt h1 h2 hs) (insO_len h2 hs) h3'
    refine ⟨a, b, c, fun t => ?_⟩
    show cnOu (L.foldl insO (insO K s)) t = _
    rw [d t, insO_cnt h2 hs, cnSt]; omega

theorem outK_spec {n : Nat} {L : List (List Int)} (hL : ∀ s ∈ L, s.length = n) : SrtK (outK L) ∧ LenK n (outK L) ∧ (∀ p ∈ outK L, 1 ≤ p.2) ∧ ∀ t, cnOu (outK L) t = cnSt L t := by
  obtain ⟨a, b, c, d⟩ := foldO_spec L hL [] trivial (fun p hp => by cases hp) (fun p hp => by cases hp)
  exact ⟨a, b, c, fun t => by unfold outK; rw [d t]; simp [cnOu]⟩

theorem insO_length (K : List (List Int × Nat)) (s : List Int) : (insO K s).length ≤ K.length + 1 := by
  induction K with
  | nil => exact Nat.le_refl _
  | cons p K ih =>
    rw [insO]
    split
    · simp only [List.length_cons]; omega
    · split
      · simp only [List.length_cons]; omega
      · simp only [List.length_cons]; omega
theorem outK_len (L : List (List Int)) : (outK L).length ≤ L.length := by
  have : ∀ (L : List (List Int)) (K : List (List Int × Nat)), (L.foldl insO K).length ≤ K.length + L.length := by
    intro L
    induction L with
    | nil => intro K; exact Nat.le_refl _
    | cons s L ih =>
      intro K
      have h1 := ih (insO K s)
      have h2 := insO_length K s
      rw [List.foldl_cons, List.length_cons]; omega
  have := this L []
  simpa [outK] using this

theorem cnOu_pos {K : List (List Int × Nat)} {t : List Int} (h : 1 ≤ cnOu K t) : ∃ p ∈ K, p.1 = t := by
  induction K with
  | nil => simp [cnOu] at h
  | cons p K ih =>
    rw [cnOu] at h
    cases hp : p.1 == t
    · rw [hp] at h
      obtain ⟨q, h1, h2⟩ := ih (by simpa using h)
      exact ⟨q, List.mem_cons_of_mem _ h1, h2⟩
    · exact ⟨p, List.mem_cons_self .., by simpa using hp⟩
theorem cnOu_zero {K : List (List Int × Nat)} {t : List Int} (h : ∀ q ∈ K, q.1 ≠ t) : cnOu K t = 0 := by
  induction K with
  | nil => rfl
  | cons p K ih =>
    have hp : (p.1 == t) = false := by simpa using h p (List.mem_cons_self ..)
    rw [cnOu, ih (fun q hq => h q (List.mem_cons_of_mem _ hq)), hp]; rfl
theorem cnOu_at {K : List (List Int × Nat)} (h : SrtK K) {p : List Int × Nat} (hp : p ∈ K) : cnOu K p.1 = p.2 := by
  induction K with
  | nil => cases hp
  | cons q K ih =>
    rw [cnOu]
    rcases List.mem_cons.1 hp with rfl | hp
    · rw [cnOu_zero (fun q hq e => by have := h.1 q hq; rw [e, ltL_irr] at this; cases this)]; simp
    · have hne : (q.1 == p.1) = false := by
        cases e : q.1 == p.1
        · rfl
        · have e' : q.1 = p.1 := by simpa using e
          have := h.1 p hp
          rw [e', ltL_irr] at this; cases this
      rw [hne, ih h.2 hp]; simp
theorem cnSt_pos {L : List (List Int)} {t : List Int} : 1 ≤ cnSt L t ↔ t ∈ L := by
  induction L with
  | nil => simp [cnSt]
  | cons s L ih =>
    rw [cnSt, List.mem_cons]
    cases hs : s == t
    · have : ¬ t = s := fun e => by rw [e] at hs; simp at hs
      simp [ih, this]
    · have : t = s := by simp at hs; exact hs.symm
      simp [this]

theorem srt_get {K : List (List Int × Nat)} (h : SrtK K) {i j : Nat} {p q : List Int × Nat} (hij : i < j) (hi : K[i]? = some p) (hj : K[j]? = some q) : ltL p.1 q.1 = true := by
  induction K generalizing i j with
  | nil => simp at hi
  | cons a K ih =>
    cases j with
    | zero => omega
    | succ j =>
      cases i with
      | zero =>
        simp at hi hj
        rw [← hi]; exact h.1 q (List.mem_of_getElem? hj)
      | succ i =>
        rw [List.getElem?_cons_succ] at hi hj
        exact ih h.2 (by omega) hi hj

/-! the least one that is greater -/
def notGt (than : Option (List Int)) (l : List Int) : Bool := match than with
  | none => false
  | some t => decide (cmpL l t ≤ 0)
theorem lstep_some (than best : Option (List Int)) (l : List Int) : lstep than best (some l) = if notGt than l then best else match best with
    | none => some l
    | some b => if decide (0 ≤ cmpL l b) then best else some l := by
  cases than <;> cases best <;> rfl
theorem notGt_iff {n : Nat} {than : Option (List Int)} {l : List Int} (hth : ∀ t, than = some t → t.length = n) (hll : l.length = n) : notGt than l = true ↔ ∃ t, than = some t ∧ ltL t l = false := by
  cases than with
  | none => simp [notGt]
  | some t =>
    have := cmpL_gt (l := l) (m := t) (by rw [hll, hth t rfl])
    simp only [notGt, decide_eq_true_eq, Option.some.injEq, exists_eq_left']
    rw [← this]; simp

theorem leastO_spec {n : Nat} (than : Option (List Int)) (hth : ∀ t, than = some t → t.length = n) (L : List (Option (List Int))) (hL : ∀ l, some l ∈ L → l.length = n) (best : Option (List Int)) (hb : ∀ l, best = some l → l.length = n) :
    (∀ m, leastO than best L = some m → m.length = n ∧ ((best = some m) ∨ (some m ∈ L ∧ ∀ t, than = some t → ltL t m = true)) ∧ (∀ b, best = some b → ltL b m = false) ∧ ∀ l, some l ∈ L → (∀ t, than = some t → ltL t l = true) → ltL l m = false) ∧
    (leastO than best L = none → best = none ∧ ∀ l, some l ∈ L → ∃ t, than = some t ∧ ltL t l = false) := by
  induction L generalizing best with
  | nil =>
    refine ⟨fun m hm => ?_, fun h => ⟨h, fun l hl => by cases hl⟩⟩
    have hm' : best = some m := hm
    exact ⟨hb m hm', .inl hm', fun b hb' => by rw [hm'] at hb'; cases hb'; exact ltL_irr _, fun l hl => by cases hl⟩
  | cons o L ih =>
    have hL' : ∀ l, some l ∈ L → l.length = n := fun l hl => hL l (List.mem_cons_of_mem _ hl)
    -- what the step makes of o
    have hstep : (lstep than best o = best ∧ ((o = none) ∨ ∃ l, o = some l ∧ ((∃ t, than = some t ∧ ltL t l = false) ∨ ((∀ t, than = some t → ltL t l = true) ∧ ∃ b, best = some b ∧ ltL l b = false)))) ∨
        (∃ l, o = some l ∧ lstep than best o = some l ∧ (∀ t, than = some t → ltL t l = true) ∧ ∀ b, best = some b → ltL l b = true) := by
      cases o with
      | none => exact .inl ⟨rfl, .inl rfl⟩
      | some l =>
        have hll := hL l (List.mem_cons_self ..)
        have htest := notGt_iff hth hll
        have hls := lstep_some than best l
        cases ht : notGt than l
        · have hno : ∀ t, than = some t → ltL t l = true := fun t e => by
            cases h2 : ltL t l
            · have := htest.2 ⟨t, e, h2⟩; rw [ht] at this; cases this
            · rfl
          rw [ht, if_neg (by simp)] at hls
          cases hbe : best with
          | none =>
            rw [hbe] at hls
            exact .inr ⟨l, rfl, hls, hno, fun b e => by cases e⟩
          | some b =>
            rw [hbe] at hls
            have hc := cmpL_lt (l := l) (m := b) (by rw [hll, hb b hbe])
            simp only at hls
            cases hlt : ltL l b
            · rw [hlt] at hc
              have : (0 : Int) ≤ cmpL l b := by simpa using hc
              exact .inl ⟨by rw [hls, if_pos (by simpa using this)], .inr ⟨l, rfl, .inr ⟨hno, b, rfl, hlt⟩⟩⟩
            · rw [hlt] at hc
              have : cmpL l b < 0 := by simpa using hc
              refine .inr ⟨l, rfl, by rw [hls, if_neg (by simp; omega)], hno, fun b' e => by cases e; exact hlt⟩
        · refine .inl ⟨?_, .inr ⟨l, rfl, .inl (htest.1 ht)⟩⟩
          rw [hls, ht, if_pos rfl]
    have hb2 : ∀ l, lstep than best o = some l → l.length = n := by
      intro l hl
      rcases hstep with ⟨h1, _⟩ | ⟨l', h1, h2, _⟩
      · exact hb l (h1 ▸ hl)
      · rw [h2] at hl
        have e : l' = l := by simpa using hl
        exact hL l (by rw [h1, e]; exact List.mem_cons_self ..)
    obtain ⟨i1, i2⟩ := ih hL' (lstep than best o) hb2
    refine ⟨fun m hm => ?_, fun hnone => ?_⟩
    · obtain ⟨j0, j1, j2, j3⟩ := i1 m hm
      rcases hstep with ⟨e1, e2⟩ | ⟨l', e1, e2, e3, e4⟩
      · rw [e1] at j1 j2
        refine ⟨j0, ?_, j2, fun l hl hgt => ?_⟩
        · rcases j1 with j | ⟨j, j'⟩
          · exact .inl j
          · exact .inr ⟨List.mem_cons_of_mem _ j, j'⟩
        · rcases List.mem_cons.1 hl with e | hl
          · rcases e2 with e2 | ⟨l2, e2, e3⟩
            · rw [e2] at e; cases e
            · rw [e2] at e; cases e
              rcases e3 with ⟨t, t1, t2⟩ | ⟨_, b, b1, b2⟩
              · have := hgt t t1; rw [t2] at this; cases this
              · have h3 := j2 b b1
                cases hlm : ltL l m
                · rfl
                · have hbl : b.length = n := hb b b1
                  have hll : l.length = n := hL l hl
                  cases h4 : ltL b l
                  · have : l = b := ltL_total (by omega) b2 h4
                    rw [this] at hlm; rw [h3] at hlm; cases hlm
                  · have := ltL_trans h4 hlm; rw [h3] at this; cases this
          · exact j3 l hl hgt
      · rw [e2] at j1 j2
        refine ⟨j0, ?_, fun b hb' => ?_, fun l hl hgt => ?_⟩
        · rcases j1 with j | ⟨j, j'⟩
          · cases j; exact .inr ⟨by rw [e1]; exact List.mem_cons_self .., e3⟩
          · exact .inr ⟨List.mem_cons_of_mem _ j, j'⟩
        · cases hbm : ltL b m
          · rfl
          · have := ltL_trans (e4 b hb') hbm; rw [j2 l' rfl] at this; cases this
        · rcases List.mem_cons.1 hl with e | hl
          · rw [e1] at e
            have e' : l = l' := by simpa using e
            exact j2 l (by rw [e'])
          · exact j3 l hl hgt
    · obtain ⟨k1, k2⟩ := i2 hnone
      rcases hstep with ⟨e1, e2⟩ | ⟨l', e1, e2, e3, e4⟩
      · rw [e1] at k1
        refine ⟨k1, fun l hl => ?_⟩
        rcases List.mem_cons.1 hl with e | hl
        · rcases e2 with e2 | ⟨l2, e2, e3⟩
          · rw [e2] at e; cases e
          · rw [e2] at e; cases e
            rcases e3 with e3 | ⟨_, b, b1, _⟩
            · exact e3
            · rw [k1] at b1; cases b1
        · exact k2 l hl
      · rw [e2] at k1; cases k1

/-- The next state is the next outcome. -/
theorem least_next {n : Nat} {L : List (Option (List Int))} (hL : ∀ l, some l ∈ L → l.length = n) (than : Option (List Int)) (j : Nat) (hth : (than = none ∧ j = 0) ∨ ∃ p i, j = i + 1 ∧ than = some p.1 ∧ (outK (L.filterMap id))[i]? = some p) :
    leastO than none L = ((outK (L.filterMap id))[j]?).map (·.1) := by
  have hmem : ∀ {l : List Int}, l ∈ L.filterMap id ↔ some l ∈ L := by intro l; simp [List.mem_filterMap]
  obtain ⟨s1, s2, s3, s4⟩ := outK_spec (n := n) (L := L.filterMap id) (fun s hs => hL s (hmem.1 hs))
  generalize hK : outK (L.filterMap id) = K at hth s1 s2 s3 s4
  have hkey : ∀ {l : List Int}, some l ∈ L → ∃ p ∈ K, p.1 = l := fun {l} hl => cnOu_pos (by rw [s4]; exact cnSt_pos.2 (hmem.2 hl))
  have hin : ∀ {p : List Int × Nat}, p ∈ K → some p.1 ∈ L := fun {p} hp => hmem.1 (cnSt_pos.1 (by rw [← s4, cnOu_at s1 hp]; exact s3 p hp))
  have hthn : ∀ t, than = some t → t.length = n := by
    intro t ht
    rcases hth with ⟨h, _⟩ | ⟨p, i, _, h, h2⟩
    · rw [h] at ht; cases ht
    · rw [h] at ht; cases ht; exact s2 p (List.mem_of_getElem? h2)
  obtain ⟨l1, l2⟩ := leastO_spec than hthn L hL none (fun l h => by cases h)
  -- which of K are greater than 'than'
  have hgt : ∀ {i : Nat} {p : List Int × Nat}, K[i]? = some p → ((∀ t, than = some t → ltL t p.1 = true) ↔ j ≤ i) := by
    intro i p hp
    rcases hth with ⟨h, hj⟩ | ⟨q, i', hj, h, h2⟩
    · rw [h]; constructor
      · intro _; omega
      · intro _ t e; cases e
    · rw [h]
      constructor
      · intro hg
        have hg' := hg q.1 rfl
        refine Nat.le_of_not_lt fun hlt => ?_
        rcases Nat.lt_or_eq_of_le (by omega : i ≤ i') with h3 | h3
        · have := srt_get s1 h3 hp h2
          rw [ltL_asym this] at hg'; cases hg'
        · subst h3
          rw [hp] at h2; cases h2
          rw [ltL_irr] at hg'; cases hg'
      · intro hji t e
        cases e
        exact srt_get s1 (by omega) h2 hp
  cases hlo : leastO than none L with
  | none =>
    obtain ⟨_, k2⟩ := l2 hlo
    cases hj : K[j]? with
    | none => rfl
    | some p =>
      obtain ⟨t, t1, t2⟩ := k2 p.1 (hin (List.mem_of_getElem? hj))
      have := (hgt hj).2 (Nat.le_refl _) t t1
      rw [t2] at this; cases this
  | some m =>
    obtain ⟨m0, m1, _, m3⟩ := l1 m hlo
    rcases m1 with e | ⟨mL, mgt⟩
    · cases e
    · obtain ⟨p, hp, rfl⟩ := hkey mL
      obtain ⟨i, hi⟩ := List.mem_iff_getElem?.1 hp
      have hji := (hgt hi).1 mgt
      have hjlt : j < K.length := Nat.lt_of_le_of_lt hji (List.getElem?_eq_some_iff.1 hi).1
      obtain ⟨q, hq⟩ : ∃ q, K[j]? = some q := ⟨K[j], List.getElem?_eq_getElem hjlt⟩
      rcases Nat.lt_or_eq_of_le hji with h3 | h3
      · have h4 := m3 q.1 (hin (List.mem_of_getElem? hq)) ((hgt hq).2 (Nat.le_refl _))
        rw [srt_get s1 h3 hq hi] at h4; cases h4
      · subst h3
        rw [hi]; rfl

end Go.Proofs.Ytomijmikkbhgmab

namespace Go.Proofs.Ytomijmikkbhgmab
open Go.RowKit

theorem Try.infoOutc : (Try.prog.info? 41).map (fun i => (i.zero, i.size, i.bytes)) = some (some (.agg #[.slice none 0 0, .int .i64 0]), 2, 32) := by kernel_rfl

def OutC (w : World) (b off : Nat) (p : List Int × Nat) : Prop := ∃ u, w.cell? ⟨b, off, none⟩ = some u ∧ w.cell? ⟨b, off + 1, none⟩ = some (.int .i64 p.2) ∧ IntAt w u p.1
def OutAt (w : World) (v : Value) (P : List (List Int × Nat)) : Prop := ∃ ao b off cap, SlAt w 2 OutC v P ao b off cap
theorem outC_keeps : Keeps OutC := fun _ _ _ _ _ hb ⟨u, h1, h2, h3⟩ => ⟨u, keep_cell hb h1, keep_cell hb h2, h3.keep hb⟩
theorem OutAt.keep {w w' : World} {v : Value} {L : List (List Int × Nat)} (h : OutAt w v L) (hb : Below w.heap.size w w') : OutAt w' v L := by
  obtain ⟨ao, b, off, cap, h⟩ := h
  exact ⟨ao, b, off, cap, h.keep outC_keeps hb⟩

def outV (q : Value × (List Int × Nat)) : List Value := [q.1, .int .i64 q.2.2]
theorem outV_len (q : Value × (List Int × Nat)) : (outV q).length = 2 := rfl

/-- Outcomes in a row of the call's own; their states lie below. -/
structure OutOwn (w0 wr : World) (V : Value) (K : List (Value × (List Int × Nat))) : Prop where
  own : wr.ownsRow w0.heap.size 41 2 V K.length (K.flatMap outV)
  st : ∀ q ∈ K, IntAt w0 q.1 q.2.1

theorem OutOwn.nil (w0 wr : World) : OutOwn w0 wr (.slice none 0 0) [] := ⟨World.ownsRow_nil _ _ _ _, fun q hq => by cases hq⟩

theorem OutOwn.read {w0 wr : World} {V : Value} {K : List (Value × (List Int × Nat))} (h : OutOwn w0 wr V K) (hb : Below w0.heap.size w0 wr) : OutAt wr V (K.map (·.2)) := by
  rcases h.own.2 with ⟨hv, hn⟩ | ⟨g, cap, cur, hv, hg, hh, _⟩
  · have h0 : K = [] := List.eq_nil_of_length_eq_zero hn
    subst h0
    exact ⟨none, 0, 0, 0, hv, fun h => absurd rfl h, fun _ => ⟨rfl, rfl⟩, fun k x h => by simp at h⟩
  · refine ⟨_, g, 0, cap, by rw [hv, List.length_map], fun _ => rfl, fun h => by simp at h, fun k x hk => ?_⟩
    rw [List.getElem?_map] at hk
    cases hq : K[k]? with
    | none => rw [hq] at hk; simp at hk
    | some q =>
      rw [hq] at hk
      have hx : q.2 = x := by simpa using hk
      subst hx
      have c1 := h.own.cells (g := g) (by rw [hv]; rfl) (k * 2 + 0) q.1 (by rw [flat_get outV 2 outV_len K k 0 q hq (by omega)]; rfl)
      have c2 := h.own.cells (g := g) (by rw [hv]; rfl) (k * 2 + 1) (.int .i64 q.2.2) (by rw [flat_get outV 2 outV_len K k 1 q hq (by omega)]; rfl)
      rw [Addr.add_lit] at c1 c2
      exact ⟨q.1, by rw [Nat.add_zero] at c1; exact c1, by rw [Nat.add_assoc]; exact c2, (h.st q (List.mem_of_getElem? hq)).keep hb⟩

theorem OutOwn.snoc {w0 wr w2 : World} {V V' : Value} {K : List (Value × (List Int × Nat))} (h : OutOwn w0 wr V K) {u : Value} {s : List Int} {n : Nat} (hu : IntAt w0 u s) (hown : w2.ownsRow w0.heap.size 41 2 V' (K.length + 1) (K.flatMap outV ++ [u, .int .i64 n])) : OutOwn w0 w2 V' (K ++ [(u, (s, n))]) := by
  refine ⟨by rw [List.flatMap_append, List.length_append]; exact hown, fun q hq => ?_⟩
  rcases List.mem_append.1 hq with hq | hq
  · exact h.st q hq
  · have : q = (u, (s, n)) := by simpa using hq
    rw [this]; exact hu

def lenV : Value → Nat
  | .slice _ n _ => n
  | _ => 0

/-- All states of allowed candidates. -/
def stsL (al : Nat → Bool) (T : List (List Ins)) (E : List Evt) (N : Nat) : List (List Int) := (optL al T E N).filterMap id

/-- How many of some states are one. -/
def cntO2 (L : List (Option (List Int))) (v : List Int) : Nat := cnSt (L.filterMap id) v
theorem cntO2_none (L : List (Option (List Int))) (v : List Int) : cntO2 (L ++ [none]) v = cntO2 L v := by unfold cntO2; rw [List.filterMap_append]; simp
theorem cnSt_snoc (L : List (List Int)) (s v : List Int) : cnSt (L ++ [s]) v = cnSt L v + (if s == v then 1 else 0) := by
  induction L with
  | nil => simp [cnSt]
  | cons a L ih => rw [List.cons_append, cnSt, cnSt, ih]; omega
theorem cntO2_some (L : List (Option (List Int))) (l v : List Int) : cntO2 (L ++ [some l]) v = cntO2 L v + (if l == v then 1 else 0) := by
  unfold cntO2; rw [List.filterMap_append]; exact cnSt_snoc _ _ _
theorem cnSt_le (L : List (List Int)) (v : List Int) : cnSt L v ≤ L.length := by
  induction L with
  | nil => exact Nat.le_refl _
  | cons a L ih => rw [cnSt, List.length_cons]; split <;> omega
theorem cntO2_le (L : List (Option (List Int))) (v : List Int) : cntO2 L v ≤ L.length := Nat.le_trans (cnSt_le _ _) (List.length_filterMap_le _ _)

/-- What Outcomes tells. -/
def OOut (T : List (List Ins)) (c : List Atm) (al : Nat → Bool) (w : World) (u : Value) (er : Int) : Prop :=
  ((chk T c).1 ≠ 0 ∧ er = (chk T c).1 ∧ u = .slice none 0 0) ∨ ((chk T c).1 = 0 ∧ er = 0 ∧ OutAt w u (outK (stsL al T (evsT T 0) (sizeN (evsT T 0)))))

theorem optL_ok {T : List (List Ins)} {c : List Atm} (hz : ((chk T c).1 == 0) = true) (al : Nat → Bool) (N : Nat) : ∀ o ∈ optL al T (evsT T 0) N, StOk (3 * T.length + 3) o := by
  intro o ho l hl
  unfold optL at ho
  obtain ⟨n, _, hn⟩ := List.mem_map.1 ho
  rw [hl] at hn
  split at hn
  · cases hn
    refine ⟨staL_len _ _ _ _, fun a ha => ?_⟩
    have := staL_small (chk_vals hz) T.length _ _ a ha
    omega
  · cases hn

end Go.Proofs.Ytomijmikkbhgmab

namespace Go.Proofs.Ytomijmikkbhgmab
open Go.RowKit

set_option maxRecDepth 20000 in
set_option maxHeartbeats 1000000 in
theorem isLess_any (l m : List Int) (hlm : m.length = l.length) (hl : l.length ≤ 1000) (u v : Value) (w : World) (hu : IntAt w u l) (hv : IntAt w v m) :
    Calls Try.prog 58 #[u, v] w fun e w' => e = .returned (.bool (ltL l m)) ∧ Below w.heap.size w w' := by
  obtain ⟨ao, b, off, cap, hu1, ha, _, hc⟩ := hu
  obtain ⟨ao2, b2, off2, cap2, hv1, ha2, _, hc2⟩ := hv
  subst hu1 hv1
  rw [hlm]
  have HC : Hid (∀ k x, l[k]? = some x → w.cell? ⟨b, off + k, none⟩ = some (.int .i64 x)) := fun k x hx => by
    have := hc k x hx
    unfold IntC at this
    rw [Nat.mul_one] at this; exact this
  have HC2 : Hid (∀ k x, m[k]? = some x → w.cell? ⟨b2, off2 + k, none⟩ = some (.int .i64 x)) := fun k x hx => by
    have := hc2 k x hx
    unfold IntC at this
    rw [Nat.mul_one] at this; exact this
  have HSM : Hid (m.length = l.length) := hlm
  have HB : Hid (ltL l m = ltL (l.drop 0) (m.drop 0)) := rfl
  generalize ltL l m = B at HB ⊢
  clear hc hc2 hlm
  go_enter Try.func58, Try.ntmps58
  go_wp2_with fail
  go_loopw [5] (fun i wr => ∃ k nn : Nat, k ≤ l.length ∧ i = .int .i64 k ∧ Hid (B = ltL (l.drop k) (m.drop k)) ∧ wr = w.drewN nn) (fun i _ => l.length - (intOf i).toNat)
  case atStart => exact ⟨0, 0, Nat.zero_le _, rfl, HB.out, rfl⟩
  case round =>
    clear HB
    obtain ⟨k, nn, hk, rfl, hn, hwr⟩ := hrel
    subst hwr
    by_cases hlt : k < l.length
    · obtain ⟨x, hx⟩ := get_of_lt hlt
      obtain ⟨y, hy⟩ := get_of_lt (l := m) (k := k) (by have := HSM.out; omega)
      obtain rfl := ha (ne_nil hlt)
      obtain rfl := ha2 (ne_nil (k := k) (by have := HSM.out; omega))
      have c0 := HC.out k x hx
      have d0 := HC2.out k y hy
      have hkI : (k : Int) < (l.length : Int) := by omega
      have HN : Hid (B = ltL (x :: l.drop (k + 1)) (y :: m.drop (k + 1))) := hn.out.trans (by rw [drop_cons hx, drop_cons hy])
      clear hn hx hy
      cases hxy : x == y
      · have hxy' : (x != y) = true := by simp [bne, hxy]
        have HM : Hid (B = decide (x < y)) := HN.out.trans (ltL_ne hxy _ _)
        go_wp2_with fail
        go_quiet (fail)
        go_wp2_with fail
        go_quiet (fail)
        go_wp2_with fail
        go_ret
        exact ⟨by rw [HM.out]; rfl, below_drN (below_drN (below_drN (Below.refl _ _) _) _) _⟩
      · have hxy' : (x != y) = false := by simp [bne, hxy]
        have HM : Hid (B = ltL (l.drop (k + 1)) (m.drop (k + 1))) := HN.out.trans (ltL_eq hxy _ _)
        go_wp2_with fail
        go_quiet (fail)
        go_wp2_with fail
        go_roundw
        case measure => simp [intOf]; omega
        case rel => exact ⟨k + 1, _, by omega, by go_num, HM.out, rfl⟩
    · have HM : Hid (B = false) := hn.out.trans (by rw [drop_nil hlt]; rfl)
      have hkI : (l.length : Int) ≤ (k : Int) := by omega
      clear hn
      go_wp2_with fail
      go_ret
      exact ⟨by rw [HM.out]; rfl, below_drN (Below.refl _ _) _⟩

/-- How many outcomes go ahead of a state. -/
def posK : List (List Int × Nat) → List Int → Nat
  | [], _ => 0
  | p :: K, s => if ltL p.1 s then posK K s + 1 else 0
theorem posK_le (K : List (List Int × Nat)) (s : List Int) : posK K s ≤ K.length := by
  induction K with
  | nil => exact Nat.le_refl _
  | cons p K ih => rw [posK, List.length_cons]; split <;> omega
theorem posK_low {K : List (List Int × Nat)} {s : List Int} {k : Nat} {p : List Int × Nat} (h : k < posK K s) (hp : K[k]? = some p) : ltL p.1 s = true := by
  induction K generalizing k with
  | nil => simp at hp
  | cons q K ih =>
    rw [posK] at h
    cases hq : ltL q.1 s
    · rw [hq] at h; simp at h
    · rw [hq, if_pos rfl] at h
      cases k with
      | zero => simp at hp; rw [← hp]; exact hq
      | succ k => rw [List.getElem?_cons_succ] at hp; exact ih (by omega) hp
theorem posK_high {K : List (List Int × Nat)} (hs : SrtK K) {s : List Int} {k : Nat} {p : List Int × Nat} (h : posK K s ≤ k) (hp : K[k]? = some p) : ltL p.1 s = false := by
  induction K generalizing k with
  | nil => simp at hp
  | cons q K ih =>
    rw [posK] at h
    cases hq : ltL q.1 s
    · cases hps : ltL p.1 s
      · rfl
      · cases k with
        | zero => simp at hp; rw [hp] at hq; rw [hq] at hps; cases hps
        | succ k =>
          rw [List.getElem?_cons_succ] at hp
          have := ltL_trans (hs.1 p (List.mem_of_getElem? hp)) hps
          rw [hq] at this; cases this
    · rw [hq, if_pos rfl] at h
      cases k with
      | zero => omega
      | succ k => rw [List.getElem?_cons_succ] at hp; exact ih hs.2 (by omega) hp

set_option maxRecDepth 20000 in
set_option maxHeartbeats 2000000 in
theorem placeFor_any (n : Nat) (hn : n ≤ 1000) (K : List (List Int × Nat)) (hK : K.length ≤ 2000) (hs : SrtK K) (hl : LenK n K) (s : List Int) (hsl : s.length = n) (u v : Value) (w : World) (hu : OutAt w u K) (hv : IntAt w v s) :
    Calls Try.prog 57 #[u, v] w fun e w' => e = .returned (.int .i64 (posK K s : Nat)) ∧ Below w.heap.size w w' := by
  have HLT : Hid (∀ (l : List Int) (vl : Value) (w' : World), l.length = n → Below w.heap.size w w' → IntAt w' vl l → Calls Try.prog 58 #[vl, v] w' fun e w'' => e = .returned (.bool (ltL l s)) ∧ Below w'.heap.size w' w'') := fun l vl w' hll hb hvl => isLess_any l s (by omega) (by omega) vl v w' hvl (hv.keep hb)
  obtain ⟨ao, b, off, cap, hu1, ha, _, hc⟩ := hu
  obtain ⟨aov, capv, hvf⟩ := hv.form
  subst hu1 hvf
  have HC : Hid (∀ k p, K[k]? = some p → OutC w b (off + k * 2) p ∧ p.1.length = n) := fun k p hp => ⟨hc k p hp, hl p (List.mem_of_getElem? hp)⟩
  have HLO : Hid (∀ k p, k < posK K s → K[k]? = some p → ltL p.1 s = true) := fun k p h1 h2 => posK_low h1 h2
  have HHI : Hid (∀ k p, posK K s ≤ k → K[k]? = some p → ltL p.1 s = false) := fun k p h1 h2 => posK_high hs h1 h2
  have hP := posK_le K s
  generalize posK K s = P at HLO HHI hP ⊢
  clear hc hv hl hs hsl
  go_enter Try.func57, Try.ntmps57
  go_wp2_with fail
  go_loopw [5, 6] (fun x y wr => ∃ lo hi : Nat, lo ≤ P ∧ P ≤ hi ∧ hi ≤ K.length ∧ x = .int .i64 lo ∧ y = .int .i64 hi ∧ Below w.heap.size w wr) (fun x y _ => (intOf y).toNat - (intOf x).toNat)
  case atStart => exact ⟨0, K.length, Nat.zero_le _, hP, Nat.le_refl _, rfl, rfl, Below.refl _ _⟩
  case round =>
    obtain ⟨lo, hi, h1, h2, h3, rfl, rfl, hb⟩ := hrel
    by_cases hlt : lo < hi
    · have hltI : (lo : Int) < (hi : Int) := by omega
      obtain ⟨p, hp⟩ := get_of_lt (l := K) (k := lo + (hi - lo) / 2) (by omega)
      obtain rfl := ha (ne_nil (k := lo) (by omega))
      obtain ⟨⟨uo, c0, c1, huo⟩, hpl⟩ := HC.out _ p hp
      replace c0 := keep_cell hb c0
      obtain ⟨aoo, capo, hfo⟩ := huo.form
      subst hfo
      have HL1 := HLT.out p.1 _ wr hpl hb (huo.keep hb)
      have HPL : Hid (ltL p.1 s = true → lo + (hi - lo) / 2 < P) := fun h => Nat.lt_of_not_le fun hle => by have := HHI.out _ p hle hp; rw [h] at this; cases this
      have HPH : Hid (ltL p.1 s = false → P ≤ lo + (hi - lo) / 2) := fun h => Nat.le_of_not_lt fun hle => by have := HLO.out _ p hle hp; rw [h] at this; cases this
      have e1 : (hi : Int) - (lo : Int) = ((hi - lo : Nat) : Int) := by omega
      have e2 : IntKind.i64.wrap ((hi - lo : Nat) : Int) = ((hi - lo : Nat) : Int) := by rw [IntKind.wrap_i64]; omega
      have e3 : ((hi - lo : Nat) : Int) / 2 = (((hi - lo) / 2 : Nat) : Int) := by omega
      have e4 : IntKind.i64.wrap (((hi - lo) / 2 : Nat) : Int) = (((hi - lo) / 2 : Nat) : Int) := by rw [IntKind.wrap_i64]; omega
      have e5 : (lo : Int) + (((hi - lo) / 2 : Nat) : Int) = ((lo + (hi - lo) / 2 : Nat) : Int) := by omega
      have e6 : IntKind.i64.wrap ((lo + (hi - lo) / 2 : Nat) : Int) = ((lo + (hi - lo) / 2 : Nat) : Int) := by rw [IntKind.wrap_i64]; omega
      have hmI : ((lo + (hi - lo) / 2 : Nat) : Int) < (K.length : Int) := by omega
      generalize ltL p.1 s = lb at HL1 HPL HPH
      have hmh : lo + (hi - lo) / 2 < hi := by omega
      generalize hmid : lo + (hi - lo) / 2 = mid at *
      have hlm : lo ≤ mid := by omega
      generalize (hi - lo) / 2 = hf at *
      generalize hi - lo = df at *
      clear hp huo hpl hmid
      go_wp2_with fail
      refine HL1.mono ?_
      rintro e w6 ⟨rfl, hb6⟩
      have hb7 := below_more hb hb6
      clear HL1 c0 c1
      cases lb
      · have hm := HPH.out rfl
        go_wp2_with fail
        go_roundw
        case measure => simp [intOf]; omega
        case rel => exact ⟨lo, mid, h1, hm, by omega, rfl, rfl, hb7⟩
      · have hm := HPL.out rfl
        go_wp2_with fail
        go_roundw
        case measure => simp [intOf]; omega
        case rel => exact ⟨mid + 1, hi, by omega, h2, h3, by go_num, rfl, hb7⟩
    · have hltI : (hi : Int) ≤ (lo : Int) := by omega
      have hlp : lo = P := by omega
      go_wp2_with fail
      go_ret
      exact ⟨by rw [hlp]; rfl, hb⟩

end Go.Proofs.Ytomijmikkbhgmab

namespace Go.Proofs.Ytomijmikkbhgmab
open Go.RowKit

theorem Try.infoCase : (Try.prog.info? 98).map (fun i => (i.zero, i.size, i.bytes)) = some (some (.agg #[.int .i64 0, .slice none 0 0, .slice none 0 0, .slice none 0 0]), 4, 80) := by kernel_rfl

/-- The numbers of the allowed candidates. -/
def casN (al : Nat → Bool) (N : Nat) : List Nat := (List.range N).filter al
theorem casN_yes {al : Nat → Bool} {k : Nat} (h : al k = true) : casN al (k + 1) = casN al k ++ [k] := by unfold casN; rw [List.range_succ, List.filter_append]; simp [h]
theorem casN_no {al : Nat → Bool} {k : Nat} (h : al k = false) : casN al (k + 1) = casN al k := by unfold casN; rw [List.range_succ, List.filter_append]; simp [h]
theorem casN_len (al : Nat → Bool) (k : Nat) : (casN al k).length ≤ k := by unfold casN; exact Nat.le_trans (List.length_filter_le _ _) (by simp)
theorem casN_states (al : Nat → Bool) (T : List (List Ins)) (E : List Evt) (N : Nat) : (optL al T E N).filterMap id = (casN al N).map fun n => stX T E (exN E n) := by
  induction N with
  | zero => rfl
  | succ N ih =>
    rw [optL_step, List.filterMap_append, ih]
    cases h : al N
    · rw [casN_no h]; simp
    · rw [casN_yes h]; simp

/-- What lies about a case stays while what lies from block B on stays. -/
def StabB (T : List (List Ins)) (E : List Evt) (B : Nat) (w : World) (vf vo u : Value) (n : Nat) : Prop :=
  ∀ w' : World, w.heap.size ≤ w'.heap.size → (∀ b : Nat, B ≤ b → b < w.heap.size → w'.heap[b]? = w.heap[b]?) → ExeAt w' vf vo (exN E n) ∧ IntAt w' u (stX T E (exN E n))
theorem StabB.now {T : List (List Ins)} {E : List Evt} {B : Nat} {w : World} {vf vo u : Value} {n : Nat} (h : StabB T E B w vf vo u n) : ExeAt w vf vo (exN E n) ∧ IntAt w u (stX T E (exN E n)) := h w (Nat.le_refl _) (fun _ _ _ => rfl)
theorem StabB.keep {T : List (List Ins)} {E : List Evt} {B : Nat} {w w' : World} {vf vo u : Value} {n : Nat} (h : StabB T E B w vf vo u n) (hb : Below w.heap.size w w') : StabB T E B w' vf vo u n :=
  fun w'' hs hk => h w'' (Nat.le_trans hb.size hs) (fun b h1 h2 => (hk b h1 (Nat.lt_of_lt_of_le h2 hb.size)).trans (hb.block b h2))

/-- A case with its number. -/
def CasC (T : List (List Ins)) (E : List Evt) (B : Nat) (w : World) (b off : Nat) (n : Nat) : Prop := ∃ vf vo u, w.cell? ⟨b, off, none⟩ = some (.int .i64 n) ∧ w.cell? ⟨b, off + 1, none⟩ = some vf ∧ w.cell? ⟨b, off + 2, none⟩ = some vo ∧ w.cell? ⟨b, off + 3, none⟩ = some u ∧ StabB T E B w vf vo u n
def CasAt (T : List (List Ins)) (E : List Evt) (B : Nat) (w : World) (v : Value) (C : List Nat) : Prop := ∃ ao b off cap, SlAt w 4 (CasC T E B) v C ao b off cap
theorem casC_keeps (T : List (List Ins)) (E : List Evt) (B : Nat) : Keeps (CasC T E B) := fun _ _ _ _ _ hb ⟨vf, vo, u, h1, h2, h3, h4, h5⟩ => ⟨vf, vo, u, keep_cell hb h1, keep_cell hb h2, keep_cell hb h3, keep_cell hb h4, h5.keep hb⟩

/-- What lies about a case stays while nothing but V's own row turns. -/
def StabC (T : List (List Ins)) (E : List Evt) (B : Nat) (w : World) (V vf vo u : Value) (n : Nat) : Prop :=
  ∀ w' : World, w.heap.size ≤ w'.heap.size → (∀ b : Nat, B ≤ b → b < w.heap.size → V.ownBlock ≠ some b → w'.heap[b]? = w.heap[b]?) → ExeAt w' vf vo (exN E n) ∧ IntAt w' u (stX T E (exN E n))

structure CL (T : List (List Ins)) (E : List Evt) (w : World) (base : Nat) (V : Value) (C : List Nat) (vs : List Value) : Prop where
  own : w.ownsRow base 98 4 V C.length vs
  rows : ∀ (j n : Nat), C[j]? = some n → ∃ vf vo u, vs[j * 4]? = some (.int .i64 n) ∧ vs[j * 4 + 1]? = some vf ∧ vs[j * 4 + 2]? = some vo ∧ vs[j * 4 + 3]? = some u ∧ StabC T E base w V vf vo u n

theorem CL.nil (T : List (List Ins)) (E : List Evt) (w : World) (base : Nat) : CL T E w base (.slice none 0 0) [] [] := ⟨World.ownsRow_nil _ _ _ _, fun j x h => by simp at h⟩

theorem CL.keep {T : List (List Ins)} {E : List Evt} {w w' : World} {base : Nat} {V : Value} {C : List Nat} {vs : List Value} (h : CL T E w base V C vs) (hb : Below w.heap.size w w') : CL T E w' base V C vs := by
  refine ⟨own_keep h.own hb, fun j x hx => ?_⟩
  obtain ⟨vf, vo, u, h1, h2, h3, h4, h5⟩ := h.rows j x hx
  exact ⟨vf, vo, u, h1, h2, h3, h4, fun w'' hs hk => h5 w'' (Nat.le_trans hb.size hs) (fun b hb0 hb1 hb2 => (hk b hb0 (Nat.lt_of_lt_of_le hb1 hb.size) hb2).trans (hb.block b hb1))⟩

theorem CL.snoc {T : List (List Ins)} {E : List Evt} {w w2 : World} {base : Nat} {V V' : Value} {C : List Nat} {vs : List Value} (h : CL T E w base V C vs) {n : Nat} {vf vo u : Value} {o : Obj} (hst : StabC T E base w V vf vo u n)
    (hown : w2.ownsRow base 98 4 V' (C.length + 1) (vs ++ [.int .i64 n, vf, vo, u])) (hg : (w.alloc o).grownBy w2 V.ownBlock) (hap : ∀ g, V'.ownBlock = some g → V.ownBlock = some g ∨ w.heap.size + 1 ≤ g) : CL T E w2 base V' (C ++ [n]) (vs ++ [.int .i64 n, vf, vo, u]) := by
  have hsz : w.heap.size + 1 ≤ w2.heap.size := by have := hg.size; simpa using this
  have hstab : ∀ f o u y, StabC T E base w V f o u y → StabC T E base w2 V' f o u y := by
    intro f o u y hy w'' hs hk
    refine hy w'' (by omega) (fun b hb0 hb1 hb2 => ?_)
    have hne : V'.ownBlock ≠ some b := fun e => by
      rcases hap b e with e' | e'
      · exact hb2 e'
      · omega
    rw [hk b hb0 (by omega) hne, hg.block b (by simp; omega) (fun e => hb2 e.symm), Below.heap_alloc _ _ _ hb1]
  have hlen : vs.length = C.length * 4 := h.own.1
  refine ⟨by simpa using hown, fun j y hy => ?_⟩
  by_cases hj : j < C.length
  · rw [List.getElem?_append_left hj] at hy
    obtain ⟨f, o, u', h1, h2, h3, h4, h5⟩ := h.rows j y hy
    refine ⟨f, o, u', ?_, ?_, ?_, ?_, hstab _ _ _ _ h5⟩ <;> rw [List.getElem?_append_left (by omega)] <;> assumption
  · have hjL : j = C.length := by
      have := (List.getElem?_eq_some_iff.1 hy).1
      simp at this; omega
    subst hjL
    rw [List.getElem?_append_right (Nat.le_refl _), Nat.sub_self] at hy
    simp at hy
    subst hy
    refine ⟨vf, vo, u, ?_, ?_, ?_, ?_, hstab _ _ _ _ hst⟩
    · rw [List.getElem?_append_right (by omega), hlen, Nat.sub_self]; rfl
    · rw [List.getElem?_append_right (by omega), hlen, show C.length * 4 + 1 - C.length * 4 = 1 by omega]; rfl
    · rw [List.getElem?_append_right (by omega), hlen, show C.length * 4 + 2 - C.length * 4 = 2 by omega]; rfl
    · rw [List.getElem?_append_right (by omega), hlen, show C.length * 4 + 3 - C.length * 4 = 3 by omega]; rfl

theorem CL.read {T : List (List Ins)} {E : List Evt} {w : World} {base : Nat} {V : Value} {C : List Nat} {vs : List Value} (h : CL T E w base V C vs) {B : Nat} (hB : B ≤ base) : CasAt T E B w V C := by
  rcases h.own.2 with ⟨hv, hn⟩ | ⟨g, cap, cur, hv, hg, hh, _⟩
  · have h0 : C = [] := List.eq_nil_of_length_eq_zero hn
    subst h0
    exact ⟨none, 0, 0, 0, hv, fun h => absurd rfl h, fun _ => ⟨rfl, rfl⟩, fun k x h => by simp at h⟩
  · refine ⟨_, g, 0, cap, hv, fun _ => rfl, fun h => by simp at h, fun k x hk => ?_⟩
    obtain ⟨vf, vo, u, h1, h2, h3, h4, h5⟩ := h.rows k x hk
    have c1 := h.own.cells (g := g) (by rw [hv]; rfl) (k * 4) _ h1
    have c2 := h.own.cells (g := g) (by rw [hv]; rfl) (k * 4 + 1) _ h2
    have c3 := h.own.cells (g := g) (by rw [hv]; rfl) (k * 4 + 2) _ h3
    have c4 := h.own.cells (g := g) (by rw [hv]; rfl) (k * 4 + 3) _ h4
    rw [Addr.add_lit] at c1 c2 c3 c4
    exact ⟨vf, vo, u, c1, by rw [Nat.add_assoc]; exact c2, by rw [Nat.add_assoc]; exact c3, by rw [Nat.add_assoc]; exact c4, fun w' hs hk => h5 w' hs (fun b h1 h2 _ => hk b (by omega) h2)⟩

theorem stab_case {T : List (List Ins)} {E : List Evt} {B : Nat} {w1 w3 w5 w6 : World} {V vf vo u : Value} {n : Nat} (hB : B ≤ w1.heap.size) (hx : ExeN w1.heap.size w3 vf vo (exN E n)) (hu : IntNew w5.heap.size w6 u (stX T E (exN E n))) (h13 : w1.heap.size ≤ w3.heap.size) (h35 : Below w3.heap.size w3 w5) (h36 : Below w3.heap.size w3 w6) (hV : ∀ g, V.ownBlock = some g → g < w1.heap.size) : StabC T E B w6 V vf vo u n := by
  intro w' hs hk
  have h5 := h35.size
  have h6 := h36.size
  refine ⟨hx.other (fun b hb1 hb2 => ?_), hu.at'.other (fun b hb => ?_)⟩
  · rw [hk b (by omega) (by omega) (fun e => by have := hV b e; omega), h36.block b hb2]
  · obtain ⟨q1, q2⟩ := hu.own (stX_ne _ _ _) b hb
    exact hk b (by omega) q2 (fun e => by have := hV b e; omega)

set_option maxRecDepth 20000 in
set_option maxHeartbeats 4000000 in
theorem cases_any (T : List (List Ins)) (c : List Atm) (hz : ((chk T c).1 == 0) = true) (al : Nat → Bool) (hal : Als T (evsT T 0) al) (vt v : Value) (w : World) (ht : ThrAt w vt T) (h : Ev4Cap w v (evsT T 0)) :
    Calls Try.prog 56 #[vt, v] w fun e w' => ∃ u, e = .returned u ∧ CasAt T (evsT T 0) w.heap.size w' u (casN al (sizeN (evsT T 0))) ∧ Below w.heap.size w w' := by
  have hF := fits_of hz
  have hM := mts_of hz
  have hN := chk_many_no hz
  have hin := evsIn_T T
  have HCT : Hid (∀ w', Below w.heap.size w w' → Calls Try.prog 75 #[v] w' fun e w'' => e = .returned (.int .i64 (sizeN (evsT T 0) : Nat)) ∧ Below w'.heap.size w' w'') := fun w' hb => by
    have := countP_any (evsT T 0) hF.el v w' (h.at'.keep hb)
    rw [cap2_of_le (by omega)] at this
    exact this
  have HNT : Hid (∀ n w', n < sizeN (evsT T 0) → Below w.heap.size w w' → Calls Try.prog 76 #[v, .int .i64 n] w' fun e w'' => ∃ vf vo, e = .returned (.tuple #[.agg #[vf, vo], .int .i64 0]) ∧ ExeN w'.heap.size w'' vf vo (exN (evsT T 0) n) ∧ Below w'.heap.size w' w'') := fun n w' hn hb => nth_new (evsT T 0) hF.el v n w' (h.at'.keep hb) hn hN
  obtain ⟨rj, hrj⟩ : ∃ rj : Nat → Int, ∀ n, JudIs (Cyc (evsT T 0).length (cohA (evsT T 0) (exN (evsT T 0) n))) (tornB (evsT T 0) (exN (evsT T 0) n)) (Cyc (evsT T 0).length (kepA T (evsT T 0) (exN (evsT T 0) n))) (¬ Parts (evsT T 0).length (mtL (thoL 2 (evsT T 0) 0) (thoL 3 (evsT T 0) 0) (thoL 4 (evsT T 0) 0)) (kepA T (evsT T 0) (exN (evsT T 0) n))) (rj n) :=
    ⟨fun n => Classical.choose (JudIs.ex _ _ _ _), fun n => Classical.choose_spec (JudIs.ex _ _ _ _)⟩
  have HRZ : Hid (∀ n, n < sizeN (evsT T 0) → (rj n == 0) = al n) := fun n hn => by
    rw [Bool.eq_iff_iff, hal n hn, beq_iff_eq]
    exact (hrj n).zero
  have HJD : Hid (∀ n vf vo w', Below w.heap.size w w' → ExeAt w' vf vo (exN (evsT T 0) n) → Calls Try.prog 77 #[vt, v, .agg #[vf, vo]] w' fun e w'' => e = .returned (.int .i64 (rj n)) ∧ Below w'.heap.size w' w'') := fun n vf vo w' hb hx => by
    have hxx := exN_isEx (evsT T 0) n
    have hrk := hxx.ranks hF.el hF.locs
    obtain ⟨j1, j2, j3, j4⟩ := judge_same' (T := T) rfl hF.el hF.locs hxx
    have hfl : (exN (evsT T 0) n).from'.length ≤ 96 := by have h1 := hxx.f; have h2 := rdsX_len (evsT T 0) 0; have h3 := hF.el; omega
    refine (of_any T hF.short vt (evsT T 0) hF.el hin hM (exN (evsT T 0) n) hfl (by have := hxx.o3; omega) (hxx.xok hF.el hF.locs).l96 hrk.bound v _ _ w' (ht.keep hb) (h.keep hb) hx).mono ?_
    rintro e w'' ⟨r, he, hj, hb'⟩
    exact ⟨by rw [he, (hj.congr' j1 j2 j3 j4).one (hrj n)], hb'⟩
  have HST : Hid (∀ n vf vo w', n < sizeN (evsT T 0) → al n = true → Below w.heap.size w w' → ExeAt w' vf vo (exN (evsT T 0) n) → Calls Try.prog 78 #[vt, v, .agg #[vf, vo]] w' fun e w'' => ∃ u, e = .returned u ∧ IntNew w'.heap.size w'' u (stX T (evsT T 0) (exN (evsT T 0) n)) ∧ Below w'.heap.size w' w'') := fun n vf vo w' hn ha hb hx => by
    have hxx := exN_isEx (evsT T 0) n
    refine (stateOf_any T hF.short vt (evsT T 0) hF.el hin _ hxx v vf vo w' (ht.keep hb) (h.at'.keep hb) hx).mono ?_
    rintro e w'' ⟨u, he, hu, hb'⟩
    rw [sta_same rfl hF.el hF.locs hxx (alw_cyc ((hal n hn).1 ha))] at hu
    exact ⟨u, he, hu, hb'⟩
  have HCY : Hid (∀ k, al k = true → casN al (k + 1) = casN al k ++ [k]) := fun k hk => casN_yes hk
  have HCN : Hid (∀ k, al k = false → casN al (k + 1) = casN al k) := fun k hk => casN_no hk
  have HCL : Hid (∀ k, (casN al k).length ≤ k) := fun k => casN_len al k
  have HC0 : Hid (casN al 0 = []) := rfl
  obtain ⟨_, aoT, bT, offT, capT, hvT, _⟩ := ht
  obtain ⟨ao, b, off, cap, ⟨hv, _, _, _⟩, _⟩ := h
  subst hv hvT
  clear hrj hal hz hM hin hF
  generalize evsT T 0 = E at *
  generalize casN al = CN at *
  generalize sizeN E = N at *
  obtain ⟨i1, hi, hz0, hz1, hz2⟩ := info_parts Try.infoCase
  have HI : Hid (Try.prog.info? 98 = some i1 ∧ i1.zero = some (.agg #[.int .i64 0, .slice none 0 0, .slice none 0 0, .slice none 0 0]) ∧ i1.size = 4 ∧ i1.bytes = 80) := ⟨hi, hz0, hz1, hz2⟩
  clear hi hz0 hz1 hz2
  go_enter Try.func56, Try.ntmps56
  go_wp2_with fail
  refine (HCT.out w (Below.refl _ _)).mono ?_
  rintro e w2 ⟨rfl, hb2⟩
  clear HCT
  go_wp2_with fail
  go_loopw [5, 7] (fun u i wr => ∃ (k : Nat) (vs : List Value), k ≤ N ∧ i = .int .i64 k ∧ Hid (CL T E wr w2.heap.size u (CN k) vs) ∧ Below w2.heap.size w2 wr) (fun _ i _ => N - (intOf i).toNat)
  case atStart => exact ⟨0, [], Nat.zero_le _, rfl, by show CL _ _ _ _ _ _ _; rw [HC0.out]; exact CL.nil _ _ _ _, Below.refl _ _⟩
  case round =>
    clear HC0
    obtain ⟨k, vs, hk, rfl, hCL, hb⟩ := hrel
    have hbw := below_more hb2 hb
    by_cases hlt : k < N
    · have hkI : (k : Int) < (N : Int) := by omega
      have hrz := HRZ.out k hlt
      have hcl := HCL.out k
      go_wp2_with fail
      refine (HNT.out k wr hlt hbw).mono ?_
      rintro e w3 ⟨vf, vo, rfl, hxn, hb3⟩
      obtain ⟨aof, capf, hff⟩ := hxn.at'.f.form
      obtain ⟨aoo, bo, offo, capo, hso⟩ := hxn.at'.o
      have hfo := hso.hv
      clear hso
      subst hff hfo
      generalize hlf : (exN E k).from'.length = lf at *
      generalize hlo : (exN E k).order.length = lo at *
      clear hlf hlo
      have HXN : Hid (ExeN wr.heap.size w3 (.slice aof lf capf) (.slice aoo lo capo) (exN E k)) := hxn
      have hbw3 := below_more hbw hb3
      have hba3 := below_alloc w3 (.cells #[.slice aof lf capf, .slice aoo lo capo] 96)
      have hbw4 := below_more hbw3 hba3
      have hJ1 := HJD.out k _ _ _ hbw4 (hxn.at'.keep hba3)
      have HJ1 : Hid (Calls Try.prog 77 #[.slice aoT T.length capT, .slice ao E.length cap, .agg #[.slice aof lf capf, .slice aoo lo capo]] (w3.alloc (.cells #[.slice aof lf capf, .slice aoo lo capo] 96)) fun e w'' => e = .returned (.int .i64 (rj k)) ∧ Below (w3.alloc (.cells #[.slice aof lf capf, .slice aoo lo capo] 96)).heap.size (w3.alloc (.cells #[.slice aof lf capf, .slice aoo lo capo] 96)) w'') := hJ1
      have HS1 : Hid (∀ w', al k = true → Below w3.heap.size w3 w' → Calls Try.prog 78 #[.slice aoT T.length capT, .slice ao E.length cap, .agg #[.slice aof lf capf, .slice aoo lo capo]] w' fun e w'' => ∃ u, e = .returned u ∧ IntNew w'.heap.size w'' u (stX T E (exN E k)) ∧ Below w'.heap.size w' w'') := fun w' ha hb' => HST.out k _ _ w' hlt ha (below_more hbw3 hb') (HXN.out.at'.keep hb')
      generalize rj k = r at HJ1 hrz
      clear hxn hJ1
      go_wp2_with fail
      refine HJ1.out.mono ?_
      rintro e w5 ⟨rfl, hb45⟩
      have hb35 := below_more hba3 hb45
      have x0 := keep_cell hb45 (b := w3.heap.size) (off := 0) (u := .slice aof lf capf) (by simp)
      have x1 := keep_cell hb45 (b := w3.heap.size) (off := 1) (u := .slice aoo lo capo) (by simp)
      have hb15 := below_more hb3 hb35
      clear HJ1 hb45
      cases hr : r == 0
      · have hak : al k = false := by rw [← hrz]; exact hr
        have HC5 : Hid (CL T E w5 w2.heap.size u5 (CN (k + 1)) vs) := by rw [HCN.out k hak]; exact hCL.out.keep hb15
        have hb25 := below_more hb hb15
        clear hCL x0 x1
        go_wp2_with fail
        go_roundw
        case measure => simp [intOf]; omega
        case rel => exact ⟨k + 1, vs, by omega, by go_num, HC5.out, hb25⟩
      · have hak : al k = true := by rw [← hrz]; exact hr
        go_wp2_with fail
        refine (HS1.out w5 hak hb35).mono ?_
        rintro e w6 ⟨u6, rfl, hu6, hb6⟩
        have hb36 := below_more hb35 hb6
        have hb16 := below_more hb15 hb6
        have hVl := hCL.out.own.lt
        have HSB : Hid (StabC T E w2.heap.size w6 u5 (.slice aof lf capf) (.slice aoo lo capo) u6 k) := stab_case hb.size HXN.out hu6 hb3.size hb35 hb36 (fun g hg => (hVl g hg).2)
        have HC6 : Hid (CL T E w6 w2.heap.size u5 (CN k) vs) := hCL.out.keep hb16
        have HO6 : Hid (w6.ownsRow w2.heap.size 98 4 u5 (CN k).length vs) := HC6.out.own
        obtain ⟨ao6, cap6, hf6⟩ := hu6.at'.form
        have hb26 := below_more hb hb16
        have hs6 := hb26.size
        replace x0 := keep_cell hb6 x0
        replace x1 := keep_cell hb6 x1
        clear hu6 hVl
        subst hf6
        generalize (stX T E (exN E k)).length = l6 at *
        generalize hcl2 : (CN k).length = lc at *
        go_wp2_with (at_builtin; refine append_new _ rfl _ _ 93 rfl w2.heap.size 98 i1 (.agg #[.int .i64 0, .slice none 0 0, .slice none 0 0, .slice none 0 0]) 4 80 Try.underlying93 HI.out.1 HI.out.2.1 HI.out.2.2.1 HI.out.2.2.2 rfl (by decide) u5 lc vs rfl (HO6.out.alloc _) (some ⟨w6.heap.size, 0, none⟩) 1 1 [.int .i64 k, .slice aof lf capf, .slice aoo lo capo, .slice ao6 l6 cap6] rfl (fun h => by cases h) rfl (fun ad had => by cases had; exact new_many rfl) (by simp [Value.oneCell']) (by unfold maxLen; omega) (by omega) (by simp; omega) ?_)
        intro V8 w8 hown8 hgrow8 hap8
        have HC8 : Hid (CL T E w8 w2.heap.size V8 (CN (k + 1)) (vs ++ [.int .i64 k, .slice aof lf capf, .slice aoo lo capo, .slice ao6 l6 cap6])) := by
          rw [HCY.out k hak]
          exact HC6.out.snoc HSB.out (by rw [hcl2]; exact hown8) hgrow8 (by simpa using hap8)
        have HB8 : Hid (Below w2.heap.size w2 w8) := Below.grown (hb26.alloc hs6 _) hgrow8 (by simp; omega) (fun kk e => (HO6.out.lt kk e).1)
        clear hown8 hgrow8 hap8
        go_wp2_with fail
        go_roundw
        case measure => simp [intOf]; omega
        case rel => exact ⟨k + 1, _, by omega, by go_num, HC8.out, HB8.out⟩
    · have hkN : k = N := by omega
      have HOK : Hid (CasAt T E w.heap.size wr u5 (CN N)) := by have := hCL.out.read hb2.size; rw [hkN] at this; exact this
      have hkI : (N : Int) ≤ (k : Int) := by omega
      clear hkN hCL
      go_wp2_with fail
      go_ret
      exact ⟨_, rfl, HOK.out, hbw⟩

end Go.Proofs.Ytomijmikkbhgmab
