import Derived.Test.YtomijmikkbhgmaaGreatT8
import Derived.Test.YtomijmikkbhgmaaGreatRh
import Derived.Test.YtomijmikkbhgmaaGreatT18
import Derived.Test.YtomijmikkbhgmaaGreatQf
import Derived.Test.YtomijmikkbhgmaaGreatT19
namespace Go.Proofs.YtomijmikkbhgmaaGreat

/-- A Swap's Read and Write stand side by side; and no other Read and Write are of one instruction. -/
structure SwOk (E : List Evt) : Prop where
  s1 : ∀ (r : Nat) (y : Evt), E[r]? = some y → y.kind = 0 → y.ins.op = 3 → E[r + 1]? = some { y with kind := 1 }
  s2 : ∀ (j : Nat) (b : Evt), E[j]? = some b → b.kind = 1 → b.ins.op = 3 → ∃ r : Nat, j = r + 1 ∧ E[r]? = some { b with kind := 0 }
  s3 : ∀ (i j : Nat) (a b : Evt), i < j → E[i]? = some a → E[j]? = some b → a.thread = b.thread → a.place = b.place → a.kind = 0 → b.kind = 1 → j = i + 1 ∧ a.ins.op = 3 ∧ b.ins = a.ins ∧ b.loc = a.loc

/-- Keys: the thread and the place. -/
def Apart (A B : List Evt) : Prop := ∀ a ∈ A, ∀ b ∈ B, ¬ (a.thread = b.thread ∧ a.place = b.place)

theorem SwOk.append {A B : List Evt} (hA : SwOk A) (hB : SwOk B) (hap : Apart A B) : SwOk (A ++ B) := by
  refine ⟨fun r y hy hk ho => ?_, fun j b hb hk ho => ?_, fun i j a b hij hi hj ht hp hk1 hk2 => ?_⟩
  · by_cases hr : r < A.length
    · rw [List.getElem?_append_left hr] at hy
      have h1 := hA.s1 r y hy hk ho
      have h2 : r + 1 < A.length := (List.getElem?_eq_some_iff.1 h1).1
      rw [List.getElem?_append_left h2]; exact h1
    · rw [List.getElem?_append_right (by omega)] at hy ⊢
      have h1 := hB.s1 _ y hy hk ho
      rw [show r + 1 - A.length = r - A.length + 1 by omega]; exact h1
  · by_cases hj : j < A.length
    · rw [List.getElem?_append_left hj] at hb
      obtain ⟨r, h1, h2⟩ := hA.s2 j b hb hk ho
      exact ⟨r, h1, by rw [List.getElem?_append_left (by omega)]; exact h2⟩
    · rw [List.getElem?_append_right (by omega)] at hb
      obtain ⟨r, h1, h2⟩ := hB.s2 _ b hb hk ho
      exact ⟨r + A.length, by omega, by rw [List.getElem?_append_right (by omega), Nat.add_sub_cancel]; exact h2⟩
  · by_cases h1 : j < A.length
    · rw [List.getElem?_append_left h1] at hj
      rw [List.getElem?_append_left (by omega)] at hi
      exact hA.s3 i j a b hij hi hj ht hp hk1 hk2
    · rw [List.getElem?_append_right (by omega)] at hj
      by_cases h2 : i < A.length
      · rw [List.getElem?_append_left h2] at hi
        exact absurd ⟨ht, hp⟩ (hap a (List.mem_of_getElem? hi) b (List.mem_of_getElem? hj))
      · rw [List.getElem?_append_right (by omega)] at hi
        obtain ⟨e1, e2, e3, e4⟩ := hB.s3 _ _ a b (by omega) hi hj ht hp hk1 hk2
        exact ⟨by omega, e2, e3, e4⟩

theorem swOk_nil : SwOk [] := ⟨fun r y h => by simp at h, fun j b h => by simp at h, fun i j a b _ h => by simp at h⟩

theorem swOk_one (y : Evt) (h : ¬ (y.ins.op = 3 ∧ (y.kind = 0 ∨ y.kind = 1))) : SwOk [y] := by
  refine ⟨fun r z hz hk ho => ?_, fun j b hb hk ho => ?_, fun i j a b hij hi hj _ _ _ _ => ?_⟩
  · have : z = y := by
      have := List.mem_of_getElem? hz
      simpa using this
    subst this
    exact absurd ⟨ho, .inl hk⟩ h
  · have : b = y := by
      have := List.mem_of_getElem? hb
      simpa using this
    subst this
    exact absurd ⟨ho, .inr hk⟩ h
  · have h1 := (List.getElem?_eq_some_iff.1 hj).1
    simp at h1
    omega

theorem swOk_two (i j : Nat) (x : Ins) (k1 k2 : Int) (h : (x.op = 3 ∧ k1 = 0 ∧ k2 = 1) ∨ (x.op ≠ 3 ∧ ¬ (k1 = 0 ∧ k2 = 1))) : SwOk (evsK i j x [k1, k2]) := by
  have hE : evsK i j x [k1, k2] = [⟨i, j, k1, x.loc, x⟩, ⟨i, j, k2, x.loc, x⟩] := rfl
  rw [hE]
  refine ⟨fun r z hz hk ho => ?_, fun r b hb hk ho => ?_, fun p q a b hpq hp hq _ _ h1 h2 => ?_⟩
  · match r, hz with
    | 0, hz =>
      simp at hz
      subst hz
      rcases h with ⟨_, rfl, rfl⟩ | ⟨h, _⟩
      · rfl
      · exact absurd ho h
    | 1, hz =>
      simp at hz
      subst hz
      rcases h with ⟨_, rfl, rfl⟩ | ⟨h, _⟩
      · simp at hk
      · exact absurd ho h
    | r + 2, hz => simp at hz
  · match r, hb with
    | 0, hb =>
      simp at hb
      subst hb
      rcases h with ⟨_, rfl, rfl⟩ | ⟨h, _⟩
      · simp at hk
      · exact absurd ho h
    | 1, hb =>
      simp at hb
      subst hb
      rcases h with ⟨_, rfl, rfl⟩ | ⟨h, _⟩
      · exact ⟨0, rfl, rfl⟩
      · exact absurd ho h
    | r + 2, hb => simp at hb
  · have hql : q < 2 := by have := (List.getElem?_eq_some_iff.1 hq).1; simpa using this
    have hp0 : p = 0 := by omega
    have hq1 : q = 1 := by omega
    subst hp0 hq1
    simp at hp hq
    subst hp hq
    rcases h with ⟨h3, _, _⟩ | ⟨_, h⟩
    · exact ⟨rfl, h3, rfl, rfl⟩
    · exact absurd ⟨h1, h2⟩ h

theorem swOk_K (i j : Nat) (x : Ins) : SwOk (evsK i j x (kindsOf x.op)) := by
  unfold kindsOf
  by_cases h0 : (x.op == 0 || x.op == 1) = true
  · rw [if_pos h0]
    refine swOk_one _ ?_
    simp at h0
    rintro ⟨h3, _⟩
    have h3' : x.op = 3 := h3
    omega
  rw [if_neg h0]
  by_cases h2 : (x.op == 2) = true
  · rw [if_pos h2]
    refine swOk_one _ ?_
    rintro ⟨h3, _⟩
    have h3' : x.op = 3 := h3
    simp at h2; omega
  rw [if_neg h2]
  by_cases h3 : (x.op == 3) = true
  · rw [if_pos h3]
    exact swOk_two i j x 0 1 (.inl ⟨by simpa using h3, rfl, rfl⟩)
  rw [if_neg h3]
  by_cases h5 : (x.op == 5) = true
  · rw [if_pos h5]
    refine swOk_one _ ?_
    rintro ⟨_, h | h⟩ <;> simp at h
  rw [if_neg h5]
  by_cases h6 : (x.op == 6) = true
  · rw [if_pos h6]
    refine swOk_one _ ?_
    rintro ⟨_, h | h⟩ <;> simp at h
  rw [if_neg h6]
  by_cases h7 : (x.op == 7) = true
  · rw [if_pos h7]
    exact swOk_two i j x 4 5 (.inr ⟨by simpa using h3, by omega⟩)
  rw [if_neg h7]
  exact swOk_nil

theorem evsK_mem {i j : Nat} {x : Ins} {ks : List Int} {y : Evt} (h : y ∈ evsK i j x ks) : y.thread = (i : Int) ∧ y.place = (j : Int) ∧ y.ins = x ∧ y.loc = x.loc ∧ y.kind ∈ ks := by
  unfold evsK at h
  obtain ⟨k, hk, rfl⟩ := List.mem_map.1 h
  exact ⟨rfl, rfl, rfl, rfl, hk⟩

/-- What an event of a thread is. -/
theorem evsI_mem {i : Nat} {l : List Ins} {j : Nat} {y : Evt} (h : y ∈ evsI i l j) : ∃ p : Nat, y.thread = (i : Int) ∧ y.place = (p : Int) ∧ j ≤ p ∧ l[p - j]? = some y.ins ∧ y.loc = y.ins.loc ∧ y.kind ∈ kindsOf y.ins.op := by
  induction l generalizing j with
  | nil => simp [evsI] at h
  | cons x l ih =>
    rw [evsI] at h
    rcases List.mem_append.1 h with h | h
    · obtain ⟨h1, h2, h3, h4, h5⟩ := evsK_mem h
      refine ⟨j, h1, h2, Nat.le_refl _, by simp [h3], by rw [h4, h3], by rw [h3]; exact h5⟩
    · obtain ⟨p, h1, h2, h3, h4, h5, h6⟩ := ih h
      refine ⟨p, h1, h2, by omega, ?_, h5, h6⟩
      rw [show p - j = (p - (j + 1)) + 1 by omega]
      simpa using h4

theorem swOk_I (i : Nat) (l : List Ins) (j : Nat) : SwOk (evsI i l j) := by
  induction l generalizing j with
  | nil => exact swOk_nil
  | cons x l ih =>
    rw [evsI]
    refine (swOk_K i j x).append (ih (j + 1)) fun a ha b hb => ?_
    obtain ⟨_, h2, _⟩ := evsK_mem ha
    obtain ⟨p, _, k2, k3, _⟩ := evsI_mem hb
    rintro ⟨_, e⟩
    rw [h2, k2] at e
    omega

theorem evsT_mem {T : List (List Ins)} {i0 : Nat} {y : Evt} (h : y ∈ evsT T i0) : ∃ (i p : Nat) (l : List Ins), y.thread = (i : Int) ∧ y.place = (p : Int) ∧ i0 ≤ i ∧ T[i - i0]? = some l ∧ l[p]? = some y.ins ∧ y.loc = y.ins.loc ∧ y.kind ∈ kindsOf y.ins.op := by
  induction T generalizing i0 with
  | nil => simp [evsT] at h
  | cons l T ih =>
    rw [evsT] at h
    rcases List.mem_append.1 h with h | h
    · obtain ⟨p, h1, h2, _, h4, h5, h6⟩ := evsI_mem h
      exact ⟨i0, p, l, h1, h2, Nat.le_refl _, by simp, by simpa using h4, h5, h6⟩
    · obtain ⟨i, p, l', h1, h2, h3, h4, h5, h6, h7⟩ := ih h
      refine ⟨i, p, l', h1, h2, by omega, ?_, h5, h6, h7⟩
      rw [show i - i0 = (i - (i0 + 1)) + 1 by omega]
      simpa using h4

theorem swOk_T (T : List (List Ins)) (i0 : Nat) : SwOk (evsT T i0) := by
  induction T generalizing i0 with
  | nil => exact swOk_nil
  | cons l T ih =>
    rw [evsT]
    refine (swOk_I i0 l 0).append (ih (i0 + 1)) fun a ha b hb => ?_
    obtain ⟨_, h1, _⟩ := evsI_mem ha
    obtain ⟨i, _, _, k1, _, k3, _⟩ := evsT_mem hb
    rintro ⟨e, _⟩
    rw [h1, k1] at e
    omega

theorem evsIn_T (T : List (List Ins)) : EvsIn T (evsT T 0) := by
  intro y hy
  obtain ⟨i, p, l, h1, h2, _, h4, h5, _⟩ := evsT_mem hy
  exact ⟨i, p, l, h1, h2, by simpa using h4, h5⟩

/-- A Copy gives a Write alone. -/
theorem copy_kind {T : List (List Ins)} {y : Evt} (h : y ∈ evsT T 0) (ho : y.ins.op = 1) : y.kind = 1 := by
  obtain ⟨_, _, _, _, _, _, _, _, _, h7⟩ := evsT_mem h
  rw [ho] at h7
  simpa [kindsOf] using h7

/-- Kinds are what they are. -/
theorem kind_range {T : List (List Ins)} {y : Evt} (h : y ∈ evsT T 0) : 0 ≤ y.kind ∧ y.kind ≤ 5 := by
  obtain ⟨_, _, _, _, _, _, _, _, _, h7⟩ := evsT_mem h
  unfold kindsOf at h7
  repeat' split at h7
  all_goals first | (simp at h7; done) | (simp at h7; omega)

/-! the ranks -/
theorem wrG_not {n : Nat} {l : List Int} {a : Nat} (h : (a : Int) ∉ l) (p : Nat) (g : Nat → Int) : wrG n l p g a = g a := by
  induction l generalizing p g with
  | nil => rfl
  | cons x l ih =>
    rw [List.mem_cons, not_or] at h
    rw [wrG, ih h.2]
    split
    · rename_i hin
      unfold inN at hin
      simp only [Bool.and_eq_true, decide_eq_true_eq] at hin
      unfold setG
      rw [if_neg]
      intro e
      exact h.1 (by omega)
    · rfl

theorem wrG_at {n : Nat} {l : List Int} (hnd : l.Nodup) {a q : Nat} (ha : a < n) (h : l[q]? = some (a : Int)) (p : Nat) (g : Nat → Int) : wrG n l p g a = ((p + q + 1 : Nat) : Int) := by
  induction l generalizing p q g with
  | nil => simp at h
  | cons x l ih =>
    obtain ⟨h1, h2⟩ := List.nodup_cons.1 hnd
    cases q with
    | zero =>
      simp at h
      subst h
      rw [wrG, wrG_not h1, if_pos (inN_yes ha), Int.toNat_natCast]
      unfold setG
      rw [if_pos rfl]
      omega
    | succ q =>
      rw [wrG, ih h2 (by simpa using h)]
      omega

/-- What rdG leaves, where what is read from is no Read. -/
theorem rdG_all {n : Nat} {S : List Int} (hS : S.length = n) (hH : ∀ j, j < n → inN n (S.getD j 0) = true → inN n (S.getD (S.getD j 0).toNat 0) = false) (g1 : Nat → Int) (k : Nat) (hk : k ≤ n) (g : Nat → Int)
    (hg : ∀ j, j < n → g j = if j < k ∧ inN n (S.getD j 0) = true then g1 (S.getD j 0).toNat else g1 j) : ∀ j, j < n → rdG n (S.drop k) k g j = if inN n (S.getD j 0) = true then g1 (S.getD j 0).toNat else g1 j := by
  generalize hm : n - k = m
  induction m generalizing k g with
  | zero =>
    have e : k = n := by omega
    subst e
    intro j hj
    rw [List.drop_eq_nil_of_le (by omega)]
    show g j = _
    rw [hg j hj]
    by_cases h1 : inN k (S.getD j 0) = true
    · rw [if_pos ⟨hj, h1⟩, if_pos h1]
    · rw [if_neg (fun h => h1 h.2), if_neg h1]
  | succ m ih =>
    have hkl : k < S.length := by omega
    obtain ⟨x, hx⟩ : ∃ x, S[k]? = some x := ⟨S[k], List.getElem?_eq_getElem hkl⟩
    have hgx : S.getD k 0 = x := by rw [List.getD, hx]; rfl
    have hd : S.drop k = x :: S.drop (k + 1) := by
      rw [List.drop_eq_getElem_cons hkl]
      have := (List.getElem?_eq_some_iff.1 hx).2
      rw [this]
    rw [hd, rdG]
    refine ih (k + 1) (by omega) _ (fun j hj => ?_) (by omega)
    by_cases hin : inN n x = true
    · rw [if_pos hin]
      unfold setG
      by_cases e : j = k
      · subst e
        rw [if_pos rfl, if_pos ⟨by omega, by rw [hgx]; exact hin⟩, hgx]
        have hxn : x.toNat < n := by
          unfold inN at hin
          simp only [Bool.and_eq_true, decide_eq_true_eq] at hin
          omega
        rw [hg _ hxn, if_neg]
        rintro ⟨_, h2⟩
        have h3 := hH j hj (by rw [hgx]; exact hin)
        rw [hgx, h2] at h3
        cases h3
      · rw [if_neg e, hg j hj]
        by_cases h1 : inN n (S.getD j 0) = true
        · by_cases h2 : j < k
          · rw [if_pos ⟨h2, h1⟩, if_pos ⟨by omega, h1⟩]
          · rw [if_neg (fun h => h2 h.1), if_neg (fun h => by have := h.1; omega)]
        · rw [if_neg (fun h => h1 h.2), if_neg (fun h => h1 h.2)]
    · rw [if_neg hin, hg j hj]
      by_cases h1 : inN n (S.getD j 0) = true
      · by_cases h2 : j < k
        · rw [if_pos ⟨h2, h1⟩, if_pos ⟨by omega, h1⟩]
        · rw [if_neg (fun h => h2 h.1), if_neg]
          rintro ⟨h3, _⟩
          have : j = k := by omega
          subst this
          rw [hgx] at h1
          exact hin h1
      · rw [if_neg (fun h => h1 h.2), if_neg (fun h => h1 h.2)]

end Go.Proofs.YtomijmikkbhgmaaGreat

namespace Go.Proofs.YtomijmikkbhgmaaGreat

/-- A test of pairs of events, by their numbers. -/
def pairB (E : List Evt) (P : Nat → Nat → Evt → Evt → Bool) (i j : Nat) : Bool := match E[i]?, E[j]? with
  | some a, some b => P i j a b
  | _, _ => false
theorem pairB_get {E : List Evt} {i j : Nat} {a b : Evt} (hi : E[i]? = some a) (hj : E[j]? = some b) (P : Nat → Nat → Evt → Evt → Bool) : pairB E P i j = P i j a b := by unfold pairB; rw [hi, hj]

/-- To event j, from those below t. -/
def upT (f : Nat → Nat → Bool) (j t : Nat) : List (Int × Int) := ((List.range t).filter fun i => f i j).map fun i : Nat => ((i : Int), (j : Int))
/-- From event i, to those behind it that are below t. -/
def dnT (f : Nat → Nat → Bool) (i t : Nat) : List (Int × Int) := ((List.range t).filter fun j => decide (i < j) && f i j).map fun j : Nat => ((i : Int), (j : Int))
def allU (f : Nat → Nat → Bool) (k : Nat) : List (Int × Int) := (List.range k).flatMap fun j => upT f j j
def allD (f : Nat → Nat → Bool) (n k : Nat) : List (Int × Int) := (List.range k).flatMap fun i => dnT f i n
/-- The same, with one arrow ahead for each event. -/
def allS (f : Nat → Nat → Bool) (S : Nat → Int) (n k : Nat) : List (Int × Int) := (List.range k).flatMap fun j => (S j, (j : Int)) :: upT f j n

theorem upT_yes {f : Nat → Nat → Bool} {j t : Nat} (h : f t j = true) : upT f j (t + 1) = upT f j t ++ [((t : Int), (j : Int))] := by
  unfold upT; rw [List.range_succ, List.filter_append, List.map_append]; simp [h]
theorem upT_no {f : Nat → Nat → Bool} {j t : Nat} (h : f t j = false) : upT f j (t + 1) = upT f j t := by
  unfold upT; rw [List.range_succ, List.filter_append, List.map_append]; simp [h]
theorem dnT_yes {f : Nat → Nat → Bool} {i t : Nat} (hi : i < t) (h : f i t = true) : dnT f i (t + 1) = dnT f i t ++ [((i : Int), (t : Int))] := by
  unfold dnT; rw [List.range_succ, List.filter_append, List.map_append]; simp [h, hi]
theorem dnT_no {f : Nat → Nat → Bool} {i t : Nat} (h : f i t = false) : dnT f i (t + 1) = dnT f i t := by
  unfold dnT; rw [List.range_succ, List.filter_append, List.map_append]; simp [h]
theorem dnT_start (f : Nat → Nat → Bool) (i : Nat) : dnT f i (i + 1) = [] := by
  unfold dnT
  rw [List.filter_eq_nil_iff.2 (fun j hj => by have : j < i + 1 := by simpa using hj
                                               have h2 : ¬ i < j := by omega
                                               simp [h2])]
  rfl
theorem allU_step (f : Nat → Nat → Bool) (k : Nat) : allU f (k + 1) = allU f k ++ upT f k k := by unfold allU; rw [List.range_succ, List.flatMap_append]; simp
theorem allD_step (f : Nat → Nat → Bool) (n k : Nat) : allD f n (k + 1) = allD f n k ++ dnT f k n := by unfold allD; rw [List.range_succ, List.flatMap_append]; simp
theorem allS_step (f : Nat → Nat → Bool) (S : Nat → Int) (n k : Nat) : allS f S n (k + 1) = allS f S n k ++ ((S k, (k : Int)) :: upT f k n) := by unfold allS; rw [List.range_succ, List.flatMap_append]; simp

theorem dnT_len (f : Nat → Nat → Bool) (i t : Nat) : (dnT f i t).length ≤ t := by
  unfold dnT; rw [List.length_map]
  have := List.length_filter_le (fun j => decide (i < j) && f i j) (List.range t)
  simpa using this
theorem allD_len (f : Nat → Nat → Bool) (n k : Nat) : (allD f n k).length ≤ k * n := by
  induction k with
  | zero => simp [allD]
  | succ k ih => rw [allD_step, List.length_append, Nat.add_mul]; have := dnT_len f k n; omega

theorem upT_mem {f : Nat → Nat → Bool} {j t a b : Nat} : ((a : Int), (b : Int)) ∈ upT f j t ↔ b = j ∧ a < t ∧ f a j = true := by
  unfold upT
  rw [List.mem_map]
  constructor
  · rintro ⟨i, hi, e⟩
    rw [List.mem_filter] at hi
    simp only [Prod.mk.injEq] at e
    have h1 : i = a := by omega
    subst h1
    exact ⟨by omega, by simpa using hi.1, hi.2⟩
  · rintro ⟨rfl, h2, h3⟩
    exact ⟨a, by rw [List.mem_filter]; exact ⟨by simpa using h2, h3⟩, rfl⟩
theorem dnT_mem {f : Nat → Nat → Bool} {i t a b : Nat} : ((a : Int), (b : Int)) ∈ dnT f i t ↔ a = i ∧ b < t ∧ i < b ∧ f i b = true := by
  unfold dnT
  rw [List.mem_map]
  constructor
  · rintro ⟨j, hj, e⟩
    rw [List.mem_filter] at hj
    simp only [Prod.mk.injEq] at e
    have h1 : j = b := by omega
    subst h1
    have h2 := hj.2
    simp only [Bool.and_eq_true, decide_eq_true_eq] at h2
    exact ⟨by omega, by simpa using hj.1, h2.1, h2.2⟩
  · rintro ⟨rfl, h2, h3, h4⟩
    exact ⟨b, by rw [List.mem_filter]; exact ⟨by simpa using h2, by simp [h3, h4]⟩, rfl⟩
theorem allU_mem {f : Nat → Nat → Bool} {n a b : Nat} : ((a : Int), (b : Int)) ∈ allU f n ↔ b < n ∧ a < b ∧ f a b = true := by
  unfold allU
  rw [List.mem_flatMap]
  constructor
  · rintro ⟨j, hj, h⟩
    obtain ⟨rfl, h2, h3⟩ := upT_mem.1 h
    exact ⟨by simpa using hj, h2, h3⟩
  · rintro ⟨h1, h2, h3⟩
    exact ⟨b, by simpa using h1, upT_mem.2 ⟨rfl, h2, h3⟩⟩
theorem allD_mem {f : Nat → Nat → Bool} {n a b : Nat} : ((a : Int), (b : Int)) ∈ allD f n n ↔ b < n ∧ a < b ∧ f a b = true := by
  unfold allD
  rw [List.mem_flatMap]
  constructor
  · rintro ⟨i, hi, h⟩
    obtain ⟨rfl, h2, h3, h4⟩ := dnT_mem.1 h
    exact ⟨h2, h3, h4⟩
  · rintro ⟨h1, h2, h3⟩
    exact ⟨a, by simp; omega, dnT_mem.2 ⟨rfl, h1, h2, h3⟩⟩
theorem allS_mem {f : Nat → Nat → Bool} {S : Nat → Int} {n a b : Nat} : ((a : Int), (b : Int)) ∈ allS f S n n ↔ b < n ∧ (S b = (a : Int) ∨ (a < n ∧ f a b = true)) := by
  unfold allS
  rw [List.mem_flatMap]
  constructor
  · rintro ⟨j, hj, h⟩
    have hj' : j < n := by simpa using hj
    rcases List.mem_cons.1 h with e | h
    · simp only [Prod.mk.injEq] at e
      have h1 : b = j := by omega
      subst h1
      exact ⟨hj', .inl e.1.symm⟩
    · obtain ⟨rfl, h2, h3⟩ := upT_mem.1 h
      exact ⟨hj', .inr ⟨h2, h3⟩⟩
  · rintro ⟨h1, h2⟩
    refine ⟨b, by simpa using h1, ?_⟩
    rcases h2 with h2 | ⟨h2, h3⟩
    · rw [← h2]; exact List.mem_cons_self ..
    · exact List.mem_cons_of_mem _ (upT_mem.2 ⟨rfl, h2, h3⟩)

theorem dnT_arws (f : Nat → Nat → Bool) (i t n : Nat) (hi : i < n) (ht : t ≤ n) : Arws n (dnT f i t) := by
  intro p hp
  unfold dnT at hp
  obtain ⟨j, hj, rfl⟩ := List.mem_map.1 hp
  rw [List.mem_filter] at hj
  have : j < t := by simpa using hj.1
  exact ⟨i, j, hi, by omega, rfl⟩
theorem allD_arws (f : Nat → Nat → Bool) (n : Nat) : Arws n (allD f n n) := by
  intro p hp
  unfold allD at hp
  obtain ⟨i, hi, h⟩ := List.mem_flatMap.1 hp
  exact dnT_arws f i n n (by simpa using hi) (Nat.le_refl _) p h
theorem Arws.append {n : Nat} {A B : List (Int × Int)} (h : Arws n A) (k : Arws n B) : Arws n (A ++ B) := by
  intro p hp
  rcases List.mem_append.1 hp with hp | hp
  · exact h p hp
  · exact k p hp

/-- Circles hang on the arrows between events alone. -/
theorem Cyc.iff {n : Nat} {A B : List (Int × Int)} (h : ∀ a b : Nat, a < n → b < n → (((a : Int), (b : Int)) ∈ A ↔ ((a : Int), (b : Int)) ∈ B)) : Cyc n A ↔ Cyc n B := by
  constructor
  · rintro ⟨S, h1, h2⟩
    refine ⟨S, h1, fun b hb hS => ?_⟩
    obtain ⟨a, ha, hSa, hm⟩ := h2 b hb hS
    exact ⟨a, ha, hSa, (h a b ha hb).1 hm⟩
  · rintro ⟨S, h1, h2⟩
    refine ⟨S, h1, fun b hb hS => ?_⟩
    obtain ⟨a, ha, hSa, hm⟩ := h2 b hb hS
    exact ⟨a, ha, hSa, (h a b ha hb).2 hm⟩

end Go.Proofs.YtomijmikkbhgmaaGreat
