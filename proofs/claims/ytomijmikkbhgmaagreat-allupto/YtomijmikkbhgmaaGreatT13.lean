import Derived.Test.YtomijmikkbhgmaaGreatT2
import Derived.Test.YtomijmikkbhgmaaGreatT8
import Derived.Test.YtomijmikkbhgmaaGreatT11
import Derived.Test.YtomijmikkbhgmaaGreatQf
import Derived.Test.YtomijmikkbhgmaaGreatT7
import Derived.Test.YtomijmikkbhgmaaGreatT1
import Derived.Deep.Quiet
import Derived.Deep.QuietTactic
import Derived.BigQuiet
namespace Go.Proofs.YtomijmikkbhgmaaGreat

/-- A Swap's Read and Write stand side by side; and no other Read and Write are of one instruction. -/
structure SwOk (E : List Evt) : Prop where
  s1 : ∀ (r : Nat) (y : Evt), E[r]? = some y → y.kind = 0 → y.ins.op = 3 → E[r + 1]? = some { y with kind := 1 }
  s2 : ∀ (j : Nat) (b : Evt), E[j]? = some b → b.kind = 1 → b.ins.op = 3 → ∃ r : Nat, j = r + 1 ∧ E[r]? = some { b with kind := 0 }
  s3 : ∀ (i j : Nat) (a b : Evt), i < j → E[i]? = some a → E[j]? = some b → a.thread = b.thread → a.place = b.place → a.kind = 0 → b.kind = 1 → j = i + 1 ∧ a.ins.op = 3 ∧ b.ins = a.ins ∧ b.loc = a.loc

/-- Keys: the thread and the place. -/
def Apart (A B : List Evt) : Prop := ∀ a ∈ A, ∀ b ∈ B, ¬ (a.thread = b.thread ∧ a.place = b.place)

theorem SwOk.append {A B : List Evt} (hA : SwOk A) (hB : SwOk B) (hap : Apart A B) : SwOk (A ++ B) := by
  refine ⟨fun r y hy hk ho => ?_, fun j b hb hk ho => ?_, fun i j a b hij hi hj ht hp hk1 hk2 => ?_⟩
  · by_cases hr : r < A.length
    · rw [List.getElem?_append_left hr] at hy
      have h1 := hA.s1 r y hy hk ho
      have h2 : r + 1 < A.length := (List.getElem?_eq_some_iff.1 h1).1
      rw [List.getElem?_append_left h2]; exact h1
    · rw [List.getElem?_append_right (by omega)] at hy ⊢
      have h1 := hB.s1 _ y hy hk ho
      rw [show r + 1 - A.length = r - A.length + 1 by omega]; exact h1
  · by_cases hj : j < A.length
    · rw [List.getElem?_append_left hj] at hb
      obtain ⟨r, h1, h2⟩ := hA.s2 j b hb hk ho
      exact ⟨r, h1, by rw [List.getElem?_append_left (by omega)]; exact h2⟩
    · rw [List.getElem?_append_right (by omega)] at hb
      obtain ⟨r, h1, h2⟩ := hB.s2 _ b hb hk ho
      exact ⟨r + A.length, by omega, by rw [List.getElem?_append_right (by omega), Nat.add_sub_cancel]; exact h2⟩
  · by_cases h1 : j < A.length
    · rw [List.getElem?_append_left h1] at hj
      rw [List.getElem?_append_left (by omega)] at hi
      exact hA.s3 i j a b hij hi hj ht hp hk1 hk2
    · rw [List.getElem?_append_right (by omega)] at hj
      by_cases h2 : i < A.length
      · rw [List.getElem?_append_left h2] at hi
        exact absurd ⟨ht, hp⟩ (hap a (List.mem_of_getElem? hi) b (List.mem_of_getElem? hj))
      · rw [List.getElem?_append_right (by omega)] at hi
        obtain ⟨e1, e2, e3, e4⟩ := hB.s3 _ _ a b (by omega) hi hj ht hp hk1 hk2
        exact ⟨by omega, e2, e3, e4⟩

theorem swOk_nil : SwOk [] := ⟨fun r y h => by simp at h, fun j b h => by simp at h, fun i j a b _ h => by simp at h⟩

theorem swOk_one (y : Evt) (h : ¬ (y.ins.op = 3 ∧ (y.kind = 0 ∨ y.kind = 1))) : SwOk [y] := by
  refine ⟨fun r z hz hk ho => ?_, fun j b hb hk ho => ?_, fun i j a b hij hi hj _ _ _ _ => ?_⟩
  · have : z = y := by
      have := List.mem_of_getElem? hz
      simpa using this
    subst this
    exact absurd ⟨ho, .inl hk⟩ h
  · have : b = y := by
      have := List.mem_of_getElem? hb
      simpa using this
    subst this
    exact absurd ⟨ho, .inr hk⟩ h
  · have h1 := (List.getElem?_eq_some_iff.1 hj).1
    simp at h1
    omega

theorem swOk_two (i j : Nat) (x : Ins) (k1 k2 : Int) (h : (x.op = 3 ∧ k1 = 0 ∧ k2 = 1) ∨ (x.op ≠ 3 ∧ ¬ (k1 = 0 ∧ k2 = 1))) : SwOk (evsK i j x [k1, k2]) := by
  have hE : evsK i j x [k1, k2] = [⟨i, j, k1, x.loc, x⟩, ⟨i, j, k2, x.loc, x⟩] := rfl
  rw [hE]
  refine ⟨fun r z hz hk ho => ?_, fun r b hb hk ho => ?_, fun p q a b hpq hp hq _ _ h1 h2 => ?_⟩
  · match r, hz with
    | 0, hz =>
      simp at hz
      subst hz
      rcases h with ⟨_, rfl, rfl⟩ | ⟨h, _⟩
      · rfl
      · exact absurd ho h
    | 1, hz =>
      simp at hz
      subst hz
      rcases h with ⟨_, rfl, rfl⟩ | ⟨h, _⟩
      · simp at hk
      · exact absurd ho h
    | r + 2, hz => simp at hz
  · match r, hb with
    | 0, hb =>
      simp at hb
      subst hb
      rcases h with ⟨_, rfl, rfl⟩ | ⟨h, _⟩
      · simp at hk
      · exact absurd ho h
    | 1, hb =>
      simp at hb
      subst hb
      rcases h with ⟨_, rfl, rfl⟩ | ⟨h, _⟩
      · exact ⟨0, rfl, rfl⟩
      · exact absurd ho h
    | r + 2, hb => simp at hb
  · have hql : q < 2 := by have := (List.getElem?_eq_some_iff.1 hq).1; simpa using this
    have hp0 : p = 0 := by omega
    have hq1 : q = 1 := by omega
    subst hp0 hq1
    simp at hp hq
    subst hp hq
    rcases h with ⟨h3, _, _⟩ | ⟨_, h⟩
    · exact ⟨rfl, h3, rfl, rfl⟩
    · exact absurd ⟨h1, h2⟩ h

theorem swOk_K (i j : Nat) (x : Ins) : SwOk (evsK i j x (kindsOf x.op)) := by
  unfold kindsOf
  by_cases h0 : (x.op == 0 || x.op == 1) = true
  · rw [if_pos h0]
    refine swOk_one _ ?_
    simp at h0
    rintro ⟨h3, _⟩
    have h3' : x.op = 3 := h3
    omega
  rw [if_neg h0]
  by_cases h2 : (x.op == 2) = true
  · rw [if_pos h2]
    refine swOk_one _ ?_
    rintro ⟨h3, _⟩
    have h3' : x.op = 3 := h3
    simp at h2; omega
  rw [if_neg h2]
  by_cases h3 : (x.op == 3) = true
  · rw [if_pos h3]
    exact swOk_two i j x 0 1 (.inl ⟨by simpa using h3, rfl, rfl⟩)
  rw [if_neg h3]
  by_cases h5 : (x.op == 5) = true
  · rw [if_pos h5]
    refine swOk_one _ ?_
    rintro ⟨_, h | h⟩ <;> simp at h
  rw [if_neg h5]
  by_cases h6 : (x.op == 6) = true
  · rw [if_pos h6]
    refine swOk_one _ ?_
    rintro ⟨_, h | h⟩ <;> simp at h
  rw [if_neg h6]
  by_cases h7 : (x.op == 7) = true
  · rw [if_pos h7]
    exact swOk_two i j x 4 5 (.inr ⟨by simpa using h3, by omega⟩)
  rw [if_neg h7]
  exact swOk_nil

theorem evsK_mem {i j : Nat} {x : Ins} {ks : List Int} {y : Evt} (h : y ∈ evsK i j x ks) : y.thread = (i : Int) ∧ y.place = (j : Int) ∧ y.ins = x ∧ y.loc = x.loc ∧ y.kind ∈ ks := by
  unfold evsK at h
  obtain ⟨k, hk, rfl⟩ := List.mem_map.1 h
  exact ⟨rfl, rfl, rfl, rfl, hk⟩

/-- What an event of a thread is. -/
theorem evsI_mem {i : Nat} {l : List Ins} {j : Nat} {y : Evt} (h : y ∈ evsI i l j) : ∃ p : Nat, y.thread = (i : Int) ∧ y.place = (p : Int) ∧ j ≤ p ∧ l[p - j]? = some y.ins ∧ y.loc = y.ins.loc ∧ y.kind ∈ kindsOf y.ins.op := by
  induction l generalizing j with
  | nil => simp [evsI] at h
  | cons x l ih =>
    rw [evsI] at h
    rcases List.mem_append.1 h with h | h
    · obtain ⟨h1, h2, h3, h4, h5⟩ := evsK_mem h
      refine ⟨j, h1, h2, Nat.le_refl _, by simp [h3], by rw [h4, h3], by rw [h3]; exact h5⟩
    · obtain ⟨p, h1, h2, h3, h4, h5, h6⟩ := ih h
      refine ⟨p, h1, h2, by omega, ?_, h5, h6⟩
      rw [show p - j = (p - (j + 1)) + 1 by omega]
      simpa using h4

theorem swOk_I (i : Nat) (l : List Ins) (j : Nat) : SwOk (evsI i l j) := by
  induction l generalizing j with
  | nil => exact swOk_nil
  | cons x l ih =>
    rw [evsI]
    refine (swOk_K i j x).append (ih (j + 1)) fun a ha b hb => ?_
    obtain ⟨_, h2, _⟩ := evsK_mem ha
    obtain ⟨p, _, k2, k3, _⟩ := evsI_mem hb
    rintro ⟨_, e⟩
    rw [h2, k2] at e
    omega

theorem evsT_mem {T : List (List Ins)} {i0 : Nat} {y : Evt} (h : y ∈ evsT T i0) : ∃ (i p : Nat) (l : List Ins), y.thread = (i : Int) ∧ y.place = (p : Int) ∧ i0 ≤ i ∧ T[i - i0]? = some l ∧ l[p]? = some y.ins ∧ y.loc = y.ins.loc ∧ y.kind ∈ kindsOf y.ins.op := by
  induction T generalizing i0 with
  | nil => simp [evsT] at h
  | cons l T ih =>
    rw [evsT] at h
    rcases List.mem_append.1 h with h | h
    · obtain ⟨p, h1, h2, _, h4, h5, h6⟩ := evsI_mem h
      exact ⟨i0, p, l, h1, h2, Nat.le_refl _, by simp, by simpa using h4, h5, h6⟩
    · obtain ⟨i, p, l', h1, h2, h3, h4, h5, h6, h7⟩ := ih h
      refine ⟨i, p, l', h1, h2, by omega, ?_, h5, h6, h7⟩
      rw [show i - i0 = (i - (i0 + 1)) + 1 by omega]
      simpa using h4

theorem swOk_T (T : List (List Ins)) (i0 : Nat) : SwOk (evsT T i0) := by
  induction T generalizing i0 with
  | nil => exact swOk_nil
  | cons l T ih =>
    rw [evsT]
    refine (swOk_I i0 l 0).append (ih (i0 + 1)) fun a ha b hb => ?_
    obtain ⟨_, h1, _⟩ := evsI_mem ha
    obtain ⟨i, _, _, k1, _, k3, _⟩ := evsT_mem hb
    rintro ⟨e, _⟩
    rw [h1, k1] at e
    omega

theorem evsIn_T (T : List (List Ins)) : EvsIn T (evsT T 0) := by
  intro y hy
  obtain ⟨i, p, l, h1, h2, _, h4, h5, _⟩ := evsT_mem hy
  exact ⟨i, p, l, h1, h2, by simpa using h4, h5⟩

/-- A Copy gives a Write alone. -/
theorem copy_kind {T : List (List Ins)} {y : Evt} (h : y ∈ evsT T 0) (ho : y.ins.op = 1) : y.kind = 1 := by
  obtain ⟨_, _, _, _, _, _, _, _, _, h7⟩ := evsT_mem h
  rw [ho] at h7
  simpa [kindsOf] using h7

/-! the ranks -/
theorem wrG_not {n : Nat} {l : List Int} {a : Nat} (h : (a : Int) ∉ l) (p : Nat) (g : Nat → Int) : wrG n l p g a = g a := by
  induction l generalizing p g with
  | nil => rfl
  | cons x l ih =>
    rw [List.mem_cons, not_or] at h
    rw [wrG, ih h.2]
    split
    · rename_i hin
      unfold inN at hin
      simp only [Bool.and_eq_true, decide_eq_true_eq] at hin
      unfold setG
      rw [if_neg]
      intro e
      exact h.1 (by omega)
    · rfl

theorem wrG_at {n : Nat} {l : List Int} (hnd : l.Nodup) {a q : Nat} (ha : a < n) (h : l[q]? = some (a : Int)) (p : Nat) (g : Nat → Int) : wrG n l p g a = ((p + q + 1 : Nat) : Int) := by
  induction l generalizing p q g with
  | nil => simp at h
  | cons x l ih =>
    obtain ⟨h1, h2⟩ := List.nodup_cons.1 hnd
    cases q with
    | zero =>
      simp at h
      subst h
      rw [wrG, wrG_not h1, if_pos (inN_yes ha), Int.toNat_natCast]
      unfold setG
      rw [if_pos rfl]
      omega
    | succ q =>
      rw [wrG, ih h2 (by simpa using h)]
      omega

/-- What rdG leaves, where what is read from is no Read. -/
theorem rdG_all {n : Nat} {S : List Int} (hS : S.length = n) (hH : ∀ j, j < n → inN n (S.getD j 0) = true → inN n (S.getD (S.getD j 0).toNat 0) = false) (g1 : Nat → Int) (k : Nat) (hk : k ≤ n) (g : Nat → Int)
    (hg : ∀ j, j < n → g j = if j < k ∧ inN n (S.getD j 0) = true then g1 (S.getD j 0).toNat else g1 j) : ∀ j, j < n → rdG n (S.drop k) k g j = if inN n (S.getD j 0) = true then g1 (S.getD j 0).toNat else g1 j := by
  generalize hm : n - k = m
  induction m generalizing k g with
  | zero =>
    have e : k = n := by omega
    subst e
    intro j hj
    rw [List.drop_eq_nil_of_le (by omega)]
    show g j = _
    rw [hg j hj]
    by_cases h1 : inN k (S.getD j 0) = true
    · rw [if_pos ⟨hj, h1⟩, if_pos h1]
    · rw [if_neg (fun h => h1 h.2), if_neg h1]
  | succ m ih =>
    have hkl : k < S.length := by omega
    obtain ⟨x, hx⟩ : ∃ x, S[k]? = some x := ⟨S[k], List.getElem?_eq_getElem hkl⟩
    have hgx : S.getD k 0 = x := by rw [List.getD, hx]; rfl
    have hd : S.drop k = x :: S.drop (k + 1) := by
      rw [List.drop_eq_getElem_cons hkl]
      have := (List.getElem?_eq_some_iff.1 hx).2
      rw [this]
    rw [hd, rdG]
    refine ih (k + 1) (by omega) _ (fun j hj => ?_) (by omega)
    by_cases hin : inN n x = true
    · rw [if_pos hin]
      unfold setG
      by_cases e : j = k
      · subst e
        rw [if_pos rfl, if_pos ⟨by omega, by rw [hgx]; exact hin⟩, hgx]
        have hxn : x.toNat < n := by
          unfold inN at hin
          simp only [Bool.and_eq_true, decide_eq_true_eq] at hin
          omega
        rw [hg _ hxn, if_neg]
        rintro ⟨_, h2⟩
        have h3 := hH j hj (by rw [hgx]; exact hin)
        rw [hgx, h2] at h3
        cases h3
      · rw [if_neg e, hg j hj]
        by_cases h1 : inN n (S.getD j 0) = true
        · by_cases h2 : j < k
          · rw [if_pos ⟨h2, h1⟩, if_pos ⟨by omega, h1⟩]
          · rw [if_neg (fun h => h2 h.1), if_neg (fun h => by have := h.1; omega)]
        · rw [if_neg (fun h => h1 h.2), if_neg (fun h => h1 h.2)]
    · rw [if_neg hin, hg j hj]
      by_cases h1 : inN n (S.getD j 0) = true
      · by_cases h2 : j < k
        · rw [if_pos ⟨h2, h1⟩, if_pos ⟨by omega, h1⟩]
        · rw [if_neg (fun h => h2 h.1), if_neg]
          rintro ⟨h3, _⟩
          have : j = k := by omega
          subst this
          rw [hgx] at h1
          exact hin h1
      · rw [if_neg (fun h => h1 h.2), if_neg (fun h => h1 h.2)]

end Go.Proofs.YtomijmikkbhgmaaGreat

namespace Go.Proofs.YtomijmikkbhgmaaGreat

/-- A test of pairs of events, by their numbers. -/
def pairB (E : List Evt) (P : Nat → Nat → Evt → Evt → Bool) (i j : Nat) : Bool := match E[i]?, E[j]? with
  | some a, some b => P i j a b
  | _, _ => false
theorem pairB_get {E : List Evt} {i j : Nat} {a b : Evt} (hi : E[i]? = some a) (hj : E[j]? = some b) (P : Nat → Nat → Evt → Evt → Bool) : pairB E P i j = P i j a b := by unfold pairB; rw [hi, hj]

/-- To event j, from those below t. -/
def upT (f : Nat → Nat → Bool) (j t : Nat) : List (Int × Int) := ((List.range t).filter fun i => f i j).map fun i : Nat => ((i : Int), (j : Int))
/-- From event i, to those behind it that are below t. -/
def dnT (f : Nat → Nat → Bool) (i t : Nat) : List (Int × Int) := ((List.range t).filter fun j => decide (i < j) && f i j).map fun j : Nat => ((i : Int), (j : Int))
def allU (f : Nat → Nat → Bool) (k : Nat) : List (Int × Int) := (List.range k).flatMap fun j => upT f j j
def allD (f : Nat → Nat → Bool) (n k : Nat) : List (Int × Int) := (List.range k).flatMap fun i => dnT f i n
/-- The same, with one arrow ahead for each event. -/
def allS (f : Nat → Nat → Bool) (S : Nat → Int) (n k : Nat) : List (Int × Int) := (List.range k).flatMap fun j => (S j, (j : Int)) :: upT f j n

theorem upT_yes {f : Nat → Nat → Bool} {j t : Nat} (h : f t j = true) : upT f j (t + 1) = upT f j t ++ [((t : Int), (j : Int))] := by
  unfold upT; rw [List.range_succ, List.filter_append, List.map_append]; simp [h]
theorem upT_no {f : Nat → Nat → Bool} {j t : Nat} (h : f t j = false) : upT f j (t + 1) = upT f j t := by
  unfold upT; rw [List.range_succ, List.filter_append, List.map_append]; simp [h]
theorem dnT_yes {f : Nat → Nat → Bool} {i t : Nat} (hi : i < t) (h : f i t = true) : dnT f i (t + 1) = dnT f i t ++ [((i : Int), (t : Int))] := by
  unfold dnT; rw [List.range_succ, List.filter_append, List.map_append]; simp [h, hi]
theorem dnT_no {f : Nat → Nat → Bool} {i t : Nat} (h : f i t = false) : dnT f i (t + 1) = dnT f i t := by
  unfold dnT; rw [List.range_succ, List.filter_append, List.map_append]; simp [h]
theorem dnT_start (f : Nat → Nat → Bool) (i : Nat) : dnT f i (i + 1) = [] := by
  unfold dnT
  rw [List.filter_eq_nil_iff.2 (fun j hj => by have : j < i + 1 := by simpa using hj
                                               have h2 : ¬ i < j := by omega
                                               simp [h2])]
  rfl
theorem allU_step (f : Nat → Nat → Bool) (k : Nat) : allU f (k + 1) = allU f k ++ upT f k k := by unfold allU; rw [List.range_succ, List.flatMap_append]; simp
theorem allD_step (f : Nat → Nat → Bool) (n k : Nat) : allD f n (k + 1) = allD f n k ++ dnT f k n := by unfold allD; rw [List.range_succ, List.flatMap_append]; simp
theorem allS_step (f : Nat → Nat → Bool) (S : Nat → Int) (n k : Nat) : allS f S n (k + 1) = allS f S n k ++ ((S k, (k : Int)) :: upT f k n) := by unfold allS; rw [List.range_succ, List.flatMap_append]; simp

theorem dnT_len (f : Nat → Nat → Bool) (i t : Nat) : (dnT f i t).length ≤ t := by
  unfold dnT; rw [List.length_map]
  have := List.length_filter_le (fun j => decide (i < j) && f i j) (List.range t)
  simpa using this
theorem allD_len (f : Nat → Nat → Bool) (n k : Nat) : (allD f n k).length ≤ k * n := by
  induction k with
  | zero => simp [allD]
  | succ k ih => rw [allD_step, List.length_append, Nat.add_mul]; have := dnT_len f k n; omega

theorem upT_mem {f : Nat → Nat → Bool} {j t a b : Nat} : ((a : Int), (b : Int)) ∈ upT f j t ↔ b = j ∧ a < t ∧ f a j = true := by
  unfold upT
  rw [List.mem_map]
  constructor
  · rintro ⟨i, hi, e⟩
    rw [List.mem_filter] at hi
    simp only [Prod.mk.injEq] at e
    have h1 : i = a := by omega
    subst h1
    exact ⟨by omega, by simpa using hi.1, hi.2⟩
  · rintro ⟨rfl, h2, h3⟩
    exact ⟨a, by rw [List.mem_filter]; exact ⟨by simpa using h2, h3⟩, rfl⟩
theorem dnT_mem {f : Nat → Nat → Bool} {i t a b : Nat} : ((a : Int), (b : Int)) ∈ dnT f i t ↔ a = i ∧ b < t ∧ i < b ∧ f i b = true := by
  unfold dnT
  rw [List.mem_map]
  constructor
  · rintro ⟨j, hj, e⟩
    rw [List.mem_filter] at hj
    simp only [Prod.mk.injEq] at e
    have h1 : j = b := by omega
    subst h1
    have h2 := hj.2
    simp only [Bool.and_eq_true, decide_eq_true_eq] at h2
    exact ⟨by omega, by simpa using hj.1, h2.1, h2.2⟩
  · rintro ⟨rfl, h2, h3, h4⟩
    exact ⟨b, by rw [List.mem_filter]; exact ⟨by simpa using h2, by simp [h3, h4]⟩, rfl⟩
theorem allU_mem {f : Nat → Nat → Bool} {n a b : Nat} : ((a : Int), (b : Int)) ∈ allU f n ↔ b < n ∧ a < b ∧ f a b = true := by
  unfold allU
  rw [List.mem_flatMap]
  constructor
  · rintro ⟨j, hj, h⟩
    obtain ⟨rfl, h2, h3⟩ := upT_mem.1 h
    exact ⟨by simpa using hj, h2, h3⟩
  · rintro ⟨h1, h2, h3⟩
    exact ⟨b, by simpa using h1, upT_mem.2 ⟨rfl, h2, h3⟩⟩
theorem allD_mem {f : Nat → Nat → Bool} {n a b : Nat} : ((a : Int), (b : Int)) ∈ allD f n n ↔ b < n ∧ a < b ∧ f a b = true := by
  unfold allD
  rw [List.mem_flatMap]
  constructor
  · rintro ⟨i, hi, h⟩
    obtain ⟨rfl, h2, h3, h4⟩ := dnT_mem.1 h
    exact ⟨h2, h3, h4⟩
  · rintro ⟨h1, h2, h3⟩
    exact ⟨a, by simp; omega, dnT_mem.2 ⟨rfl, h1, h2, h3⟩⟩
theorem allS_mem {f : Nat → Nat → Bool} {S : Nat → Int} {n a b : Nat} : ((a : Int), (b : Int)) ∈ allS f S n n ↔ b < n ∧ (S b = (a : Int) ∨ (a < n ∧ f a b = true)) := by
  unfold allS
  rw [List.mem_flatMap]
  constructor
  · rintro ⟨j, hj, h⟩
    have hj' : j < n := by simpa using hj
    rcases List.mem_cons.1 h with e | h
    · simp only [Prod.mk.injEq] at e
      have h1 : b = j := by omega
      subst h1
      exact ⟨hj', .inl e.1.symm⟩
    · obtain ⟨rfl, h2, h3⟩ := upT_mem.1 h
      exact ⟨hj', .inr ⟨h2, h3⟩⟩
  · rintro ⟨h1, h2⟩
    refine ⟨b, by simpa using h1, ?_⟩
    rcases h2 with h2 | ⟨h2, h3⟩
    · rw [← h2]; exact List.mem_cons_self ..
    · exact List.mem_cons_of_mem _ (upT_mem.2 ⟨rfl, h2, h3⟩)

theorem dnT_arws (f : Nat → Nat → Bool) (i t n : Nat) (hi : i < n) (ht : t ≤ n) : Arws n (dnT f i t) := by
  intro p hp
  unfold dnT at hp
  obtain ⟨j, hj, rfl⟩ := List.mem_map.1 hp
  rw [List.mem_filter] at hj
  have : j < t := by simpa using hj.1
  exact ⟨i, j, hi, by omega, rfl⟩
theorem allD_arws (f : Nat → Nat → Bool) (n : Nat) : Arws n (allD f n n) := by
  intro p hp
  unfold allD at hp
  obtain ⟨i, hi, h⟩ := List.mem_flatMap.1 hp
  exact dnT_arws f i n n (by simpa using hi) (Nat.le_refl _) p h
theorem Arws.append {n : Nat} {A B : List (Int × Int)} (h : Arws n A) (k : Arws n B) : Arws n (A ++ B) := by
  intro p hp
  rcases List.mem_append.1 hp with hp | hp
  · exact h p hp
  · exact k p hp

/-- Circles hang on the arrows between events alone. -/
theorem Cyc.iff {n : Nat} {A B : List (Int × Int)} (h : ∀ a b : Nat, a < n → b < n → (((a : Int), (b : Int)) ∈ A ↔ ((a : Int), (b : Int)) ∈ B)) : Cyc n A ↔ Cyc n B := by
  constructor
  · rintro ⟨S, h1, h2⟩
    refine ⟨S, h1, fun b hb hS => ?_⟩
    obtain ⟨a, ha, hSa, hm⟩ := h2 b hb hS
    exact ⟨a, ha, hSa, (h a b ha hb).1 hm⟩
  · rintro ⟨S, h1, h2⟩
    refine ⟨S, h1, fun b hb hS => ?_⟩
    obtain ⟨a, ha, hSa, hm⟩ := h2 b hb hS
    exact ⟨a, ha, hSa, (h a b ha hb).2 hm⟩

end Go.Proofs.YtomijmikkbhgmaaGreat

namespace Go.Proofs.YtomijmikkbhgmaaGreat
open Go.RowKit

/-- The worlds that come of one by making memory. -/
structure Grw (w : World) where
  val : World
  low : Below w.heap.size w val

theorem grw_some (w : World) : Nonempty (Grw w) := ⟨⟨w, Below.refl _ _⟩⟩

theorem wp_region_grown {P : Program} {id : Nat} {Q : Exit → Act → World → Prop} {a : Act} {w : World} {l : List Oper} (hm : P.follows .mixedOrders = true) (hB : Region.lexB .any l.toArray = true)
    (h : wpQuiet P l.toArray (fun w' => ∃ z : Grw w, w' = z.val) (fun a' => ∀ w', (∃ z : Grw w, w' = z.val) → Q .normal a' w') l a) : (Code.region id l.toArray true).wp P Q a w :=
  wp_region_quiet (C := fun w' => ∃ z : Grw w, w' = z.val) hm hB ⟨⟨w.drew, (Below.refl _ _).drew⟩, rfl⟩ (by simpa using h)

theorem grown_call {P : Program} {f : FuncId} {args : Array Value} {w : World} {z : Grw w} {v : Value} (h : Calls P f args z.val fun e w' => e = .returned v ∧ Below z.val.heap.size z.val w') :
    Calls P f args z.val fun e w'' => e = .returned v ∧ ∃ z' : Grw w, w'' = z'.val :=
  h.mono fun _ w'' ⟨he, hb⟩ => ⟨he, ⟨w'', below_more z.low hb⟩, rfl⟩

theorem grown_cell {w : World} {b o : Nat} {u : Value} (h : w.cell? ⟨b, o, none⟩ = some u) : ∀ z : Grw w, z.val.cell? ⟨b, o, none⟩ = some u := fun z => keep_cell z.low h

end Go.Proofs.YtomijmikkbhgmaaGreat

namespace Go.Proofs.YtomijmikkbhgmaaGreat
open Go.RowKit

theorem Box4.only {B : Nat} {w w' : World} {b : Nat} {x : Evt} (h : Box4 w b x) (ho : Only B w w') (hn : b ≠ B) : Box4 w' b x := ⟨ho.cell h.c0 hn, ho.cell h.c1 hn, ho.cell h.c2 hn, ho.cell h.c3 hn⟩

/-- To a Write, from what stands ahead of it in its location's list, or reads from that. -/
def exF (E : List Evt) (R : Nat → Int) : Nat → Nat → Bool := pairB E (fun i j a b => b.kind == 1 && (sameB a b && decide (R i < R j)))

theorem exF_none {E : List Evt} {R : Nat → Int} {j : Nat} {b : Evt} (hj : E[j]? = some b) (hk : (b.kind == 1) = false) (t : Nat) : upT (exF E R) j t = [] := by
  induction t with
  | zero => rfl
  | succ t ih =>
    rw [upT_no]
    · exact ih
    · unfold exF pairB
      rw [hj]
      cases E[t]? with
      | none => rfl
      | some a => simp [hk]

set_option maxRecDepth 20000 in
set_option maxHeartbeats 1000000 in
theorem executed_any (E : List Evt) (hE : E.length ≤ 96) (S R : Nat → Int) (v vs vr : Value) (w : World) (h : Ev4At w v E) (hs : IntAt w vs ((List.range E.length).map S)) (hr : IntAt w vr ((List.range E.length).map R)) :
    Calls Tryz.prog 102 #[v, vs, vr] w fun e w' => ∃ bl, e = .returned (.agg #[.int .i64 E.length, .slice (some ⟨bl, 0, none⟩) (E.length * E.length) (E.length * E.length)]) ∧ w.heap.size ≤ bl ∧ MatAt w' bl E.length (allS (exF E R) S E.length E.length) ∧ Below w.heap.size w w' := by
  obtain ⟨ao, b, off, cap, hv, ha, _, hc⟩ := h
  obtain ⟨aos, bs, offs, caps, hvs, has, _, hcs⟩ := hs
  obtain ⟨aor, br, offr, capr, hvr, har, _, hcr⟩ := hr
  rw [List.length_map, List.length_range] at hvs hvr
  subst hv hvs hvr
  have HC : Hid (∀ k y, E[k]? = some y → Ev4C w b (off + k * 4) y) := hc
  have HS : Hid (∀ k, k < E.length → w.cell? ⟨bs, offs + k, none⟩ = some (.int .i64 (S k))) := fun k hk => by
    have := hcs k (S k) (by simp [hk])
    unfold IntC at this
    rw [Nat.mul_one] at this; exact this
  have HR : Hid (∀ k, k < E.length → w.cell? ⟨br, offr + k, none⟩ = some (.int .i64 (R k))) := fun k hk => by
    have := hcr k (R k) (by simp [hk])
    unfold IntC at this
    rw [Nat.mul_one] at this; exact this
  have HNE : Hid (0 < E.length → aos = some ⟨bs, offs, none⟩ ∧ aor = some ⟨br, offr, none⟩) := fun h0 => ⟨has (ne_nil (k := 0) (by simpa using h0)), har (ne_nil (k := 0) (by simpa using h0))⟩
  have HF : Hid (∀ (i j : Nat) (x y : Evt), E[i]? = some x → E[j]? = some y → exF E R i j = (y.kind == 1 && (sameB x y && decide (R i < R j)))) := fun i j x y hi hj => pairB_get hi hj _
  have HF0 : Hid (∀ (j : Nat) (y : Evt), E[j]? = some y → (y.kind == 1) = false → ∀ t, upT (exF E R) j t = []) := fun j y hj hk t => exF_none hj hk t
  generalize exF E R = f at HF HF0 ⊢
  have HE : Hid (∀ k, k < E.length → ∃ y, E[k]? = some y) := fun k hk => get_of_lt hk
  clear hc hcs hcr has har
  go_enter Tryz.func102, Tryz.ntmps102
  go_wp2_with fail
  refine (new_any E.length hE _).mono ?_
  rintro e w2 ⟨rfl, hm2, hb2⟩
  rw [World.size_alloc] at hm2 hb2 ⊢
  generalize hn : E.length = n at *
  have HM2 : Hid (MatAt w2 (w.heap.size + 1 + 1) n []) := hm2
  have hs2 : w.heap.size + 1 + 1 < w2.heap.size := hm2.lt
  have hbw2 : Below w.heap.size w w2 := (below_alloc _ _).trans (hb2.mono (by omega))
  have d0 := hb2.cell (p := ⟨w.heap.size, 0, none⟩) (by simp)
  have d1 := hb2.cell (p := ⟨w.heap.size, 1, none⟩) (by simp)
  have z0 := hb2.frozen (p := ⟨w.heap.size, 0, none⟩) (by simp)
  have z1 := hb2.frozen (p := ⟨w.heap.size, 1, none⟩) (by simp)
  clear hb2 hm2
  have d0' : w2.cell? ⟨w.heap.size, 0, none⟩ = some (.int .i64 0) := d0.trans (by simp)
  have d1' : w2.cell? ⟨w.heap.size, 1, none⟩ = some (.slice none 0 0) := d1.trans (by simp)
  have z0' : w2.frozen? ⟨w.heap.size, 0, none⟩ = false := z0.trans (by simp)
  have z1' : w2.frozen? ⟨w.heap.size, 1, none⟩ = false := z1.trans (by simp)
  have HD : Hid (w2.cell? ⟨w.heap.size, 0, none⟩ = some (.int .i64 0) ∧ w2.cell? ⟨w.heap.size, 1, none⟩ = some (.slice none 0 0) ∧ w2.frozen? ⟨w.heap.size, 0, none⟩ = false ∧ w2.frozen? ⟨w.heap.size, 1, none⟩ = false) := ⟨d0', d1', z0', z1'⟩
  clear d0 d1 z0 z1 d0' d1' z0' z1'
  go_wp2_with fail
  obtain ⟨bl, hbl⟩ : ∃ bl, w.heap.size + 1 + 1 = bl := ⟨_, rfl⟩
  rw [hbl] at HM2 hs2 ⊢
  have hblw : w.heap.size < bl := by omega
  clear hbl
  have HST0 : Hid (SetAt (w2.alloc (.cells #[.int .i64 n, .slice (some ⟨bl, 0, none⟩) (n * n) (n * n)] 141)) w2.heap.size bl n (allS f S n 0)) := ⟨by simp, by simp, HM2.out.keep (below_alloc _ _), by omega⟩
  have hbW : Below w.heap.size w (w2.alloc (.cells #[.int .i64 n, .slice (some ⟨bl, 0, none⟩) (n * n) (n * n)] 141)) := hbw2.alloc hbw2.size _
  have hsW : w2.heap.size < (w2.alloc (.cells #[.int .i64 n, .slice (some ⟨bl, 0, none⟩) (n * n) (n * n)] 141)).heap.size := by simp
  have HDW : Hid ((w2.alloc (.cells #[.int .i64 n, .slice (some ⟨bl, 0, none⟩) (n * n) (n * n)] 141)).heap[w.heap.size]? = w2.heap[w.heap.size]?) := (below_alloc _ _).block _ (by omega)
  generalize w2.alloc (.cells #[.int .i64 n, .slice (some ⟨bl, 0, none⟩) (n * n) (n * n)] 141) = W at HST0 hbW hsW HDW ⊢
  generalize hp : w2.heap.size = p at *
  clear HM2 hbw2
  have HN : Hid (E.length = n) := hn
  clear hn
  go_loopw [17] (fun i wr => ∃ k : Nat, k ≤ n ∧ i = .int .i64 k ∧ Hid (SetAt wr p bl n (allS f S n k)) ∧ Hid (Only bl W wr)) (fun i _ => n - (intOf i).toNat)
  case atStart => exact ⟨0, Nat.zero_le _, rfl, HST0.out, Only.refl _ _⟩
  case round =>
    clear HST0
    obtain ⟨k, hk, rfl, hset, hon⟩ := hrel
    have HST := hset
    have HON := hon
    have hbr : Below w.heap.size w wr := hbW.trans (hon.out.below (by omega) hbW.size)
    have hszr := hon.out.size
    by_cases hlt : k < n
    · obtain ⟨y, hy⟩ := HE.out k hlt
      have HY : Hid (E[k]? = some y) := hy
      obtain ⟨e1, e2⟩ := HNE.out (by omega)
      subst e1 e2
      obtain rfl := ha (by intro h; rw [h] at hy; simp at hy)
      obtain ⟨c0, c1, c2, c3⟩ := ev4C_keeps _ _ _ _ _ hbr (HC.out k y hy)
      have q0 := keep_cell hbr (HS.out k hlt)
      have m0 := World.block_lt_of_cell? _ _ c0
      have m1 := World.block_lt_of_cell? _ _ q0
      simp only at m0 m1
      have hkI : (k : Int) < (n : Int) := by omega
      clear hset hon hy
      go_wp2_with fail
      have hbox := box4_new wr y 75
      have hba := below_alloc wr (.cells #[.int .i64 y.thread, .int .i64 y.place, .int .i64 y.kind, .int .i64 y.loc] 75)
      refine (add_any n hE _ p bl (S k) (k : Int) _ (HST.out.keep hba)).mono ?_
      rintro e w4 ⟨r4, rfl, hset4, hon4⟩
      have HB4 : Hid (Box4 w4 wr.heap.size y) := hbox.only hon4 (by omega)
      have HON4 : Hid (Only bl W w4) := (HON.out.trans (Only.of_below hba)).trans hon4
      have hs4 : wr.heap.size + 1 ≤ w4.heap.size := by have := hon4.size; simpa using this
      obtain ⟨b0, b1, b2, b3⟩ := HB4.out
      clear c0 c1 c2 c3 q0 m0 m1 hbox hba hon4 HST HON
      cases hk1 : y.kind == 1
      · have hk1' : (y.kind != 1) = true := by simp [bne, hk1]
        have HS4 : Hid (SetAt w4 p bl n (allS f S n (k + 1))) := by rw [allS_step, HF0.out k y HY.out hk1]; exact hset4
        clear hset4
        go_wp2_with fail
        go_roundw
        case measure => simp [intOf]; omega
        case rel => exact ⟨k + 1, by omega, by go_num, HS4.out, HON4.out⟩
      · have hk1' : (y.kind != 1) = false := by simp [bne, hk1]
        have HS4 : Hid (SetAt w4 p bl n (allS f S n k ++ ((S k, (k : Int)) :: upT f k 0))) := hset4
        clear hset4
        go_wp2_with fail
        clear b0 b1 b2 b3
        generalize wr.heap.size = q9 at HB4 hs4 hszr ⊢
        go_loopw [33] (fun i wr => ∃ t : Nat, t ≤ n ∧ i = .int .i64 t ∧ Hid (SetAt wr p bl n (allS f S n k ++ ((S k, (k : Int)) :: upT f k t))) ∧ Hid (Only bl w4 wr)) (fun i _ => n - (intOf i).toNat)
        case atStart => exact ⟨0, Nat.zero_le _, rfl, HS4.out, Only.refl _ _⟩
        case round =>
          clear HS4
          obtain ⟨t, ht, rfl, hset, hon⟩ := hrel
          have HST := hset
          have HON := hon
          have hon5 : Only bl W wr := HON4.out.trans hon.out
          have hbr5 : Below w.heap.size w wr := hbW.trans (hon5.below (by omega) hbW.size)
          have hs5 := hon.out.size
          by_cases htn : t < n
          · obtain ⟨x, hx⟩ := HE.out t htn
            have HFV : Hid (f t k = (sameB x y && decide (R t < R k))) := (HF.out t k x y hx HY.out).trans (by rw [hk1]; rfl)
            obtain ⟨c0, c1, c2, c3⟩ := ev4C_keeps _ _ _ _ _ hbr5 (HC.out t x hx)
            have m0 := World.block_lt_of_cell? _ _ c0
            simp only at m0
            have htI : (t : Int) < (n : Int) := by omega
            have HNO : Hid (f t k = false → upT f k (t + 1) = upT f k t) := fun h => upT_no h
            have HYES : Hid (f t k = true → allS f S n k ++ ((S k, (k : Int)) :: upT f k (t + 1)) = (allS f S n k ++ ((S k, (k : Int)) :: upT f k t)) ++ [((t : Int), (k : Int))]) := fun h => by rw [upT_yes h]; simp
            have HX1 : Hid (∀ w', Below (wr.heap.size + 1) (wr.alloc (.cells #[.int .i64 x.thread, .int .i64 x.place, .int .i64 x.kind, .int .i64 x.loc] 75)) w' → Box4 w' wr.heap.size x ∧ Box4 w' q9 y ∧ w'.cell? ⟨br, offr + t, none⟩ = some (.int .i64 (R t)) ∧ w'.cell? ⟨br, offr + k, none⟩ = some (.int .i64 (R k))) := fun w' hw' => by
              have hw2 : Below (wr.alloc (.cells #[.int .i64 x.thread, .int .i64 x.place, .int .i64 x.kind, .int .i64 x.loc] 75)).heap.size (wr.alloc (.cells #[.int .i64 x.thread, .int .i64 x.place, .int .i64 x.kind, .int .i64 x.loc] 75)) w' := by rw [World.size_alloc]; exact hw'
              have hb7 := below_more (below_alloc _ _) hw2
              exact ⟨(box4_new wr x _).keep hw2, (HB4.out.only hon.out (by omega)).keep hb7, keep_cell (below_more hbr5 hb7) (HR.out t htn), keep_cell (below_more hbr5 hb7) (HR.out k hlt)⟩
            have hba := below_alloc wr (.cells #[.int .i64 x.thread, .int .i64 x.place, .int .i64 x.kind, .int .i64 x.loc] 75)
            have HSA : Hid (SetAt (wr.alloc (.cells #[.int .i64 x.thread, .int .i64 x.place, .int .i64 x.kind, .int .i64 x.loc] 75)) p bl n (allS f S n k ++ ((S k, (k : Int)) :: upT f k t))) := HST.out.keep hba
            have HOA : Hid (Only bl w4 (wr.alloc (.cells #[.int .i64 x.thread, .int .i64 x.place, .int .i64 x.kind, .int .i64 x.loc] 75))) := HON.out.trans (Only.of_below hba)
            clear hset hon hx hba
            generalize hsB : sameB x y = SB at HFV
            have HSB : Hid (sameB x y = SB) := hsB
            clear hsB
            go_wp2_with fail
            clear c0 c1 c2 c3
            generalize hWW : wr.alloc (.cells #[.int .i64 x.thread, .int .i64 x.place, .int .i64 x.kind, .int .i64 x.loc] 75) = W5 at HX1 HSA HOA ⊢
            have hs6 : W5.heap.size = wr.heap.size + 1 := by rw [← hWW]; simp
            generalize wr.heap.size = q11 at *
            rw [← hs6] at HX1
            clear hWW
            obtain ⟨⟨g0, g1, g2, g3⟩, ⟨b0, b1, b2, b3⟩, r0, r1⟩ := HX1.out W5 (Below.refl _ _)
            replace g0 := grown_cell g0
            replace g1 := grown_cell g1
            replace g2 := grown_cell g2
            replace g3 := grown_cell g3
            replace b0 := grown_cell b0
            replace b1 := grown_cell b1
            replace b2 := grown_cell b2
            replace b3 := grown_cell b3
            replace r0 := grown_cell r0
            replace r1 := grown_cell r1
            have hne := grw_some W5
            cases SB
            · have HM : Hid (upT f k (t + 1) = upT f k t) := HNO.out (HFV.out.trans (by rfl))
              refine wp_region_grown (by kernel_rfl) (by kernel_rfl) ?_
              repeat (go_big_quiet_step ((go_at_call 135; refine grown_call (v := .bool false) ?_; rw [← HSB.out]; exact isSameLoc_any x y _)))
              refine wpQuiet_nil ?_
              intro w7 hw7
              obtain ⟨⟨w7', hb7⟩, rfl⟩ := hw7
              have HS7 : Hid (SetAt w7 p bl n (allS f S n k ++ ((S k, (k : Int)) :: upT f k (t + 1)))) := by rw [HM.out]; exact HSA.out.keep hb7
              have HO7 : Hid (Only bl w4 w7) := HOA.out.trans (Only.of_below hb7)
              clear HSA HOA g0 g1 g2 g3 b0 b1 b2 b3 r0 r1
              go_wp2_with fail
              go_roundw
              case measure => simp [intOf]; omega
              case rel => exact ⟨t + 1, by omega, by go_num, HS7.out, HO7.out⟩
            · refine wp_region_grown (by kernel_rfl) (by kernel_rfl) ?_
              repeat (go_big_quiet_step ((go_at_call 135; refine grown_call (v := .bool true) ?_; rw [← HSB.out]; exact isSameLoc_any x y _)))
              refine wpQuiet_nil ?_
              intro w7 hw7
              obtain ⟨⟨w7', hb7⟩, rfl⟩ := hw7
              clear g0 g1 g2 g3 b0 b1 b2 b3 r0 r1
              have HFV2 : Hid (f t k = decide (R t < R k)) := HFV.out.trans (by rw [Bool.true_and])
              have hS7 := HSA.out.keep hb7
              have HO7 : Hid (Only bl w4 w7) := HOA.out.trans (Only.of_below hb7)
              clear HSA HOA HFV
              cases hd : decide (R t < R k)
              · have HM : Hid (upT f k (t + 1) = upT f k t) := HNO.out (HFV2.out.trans hd)
                have HS7 : Hid (SetAt w7 p bl n (allS f S n k ++ ((S k, (k : Int)) :: upT f k (t + 1)))) := by rw [HM.out]; exact hS7
                clear hS7
                go_wp2_with fail
                go_roundw
                case measure => simp [intOf]; omega
                case rel => exact ⟨t + 1, by omega, by go_num, HS7.out, HO7.out⟩
              · have HM : Hid (allS f S n k ++ ((S k, (k : Int)) :: upT f k (t + 1)) = (allS f S n k ++ ((S k, (k : Int)) :: upT f k t)) ++ [((t : Int), (k : Int))]) := HYES.out (HFV2.out.trans hd)
                have HSH : Hid (SetAt w7 p bl n (allS f S n k ++ ((S k, (k : Int)) :: upT f k t))) := hS7
                clear hS7
                go_wp2_with fail
                refine (add_any n hE _ p bl (t : Int) (k : Int) _ HSH.out).mono ?_
                rintro e w8 ⟨r8, rfl, hset8, hon8⟩
                have HS8 : Hid (SetAt w8 p bl n (allS f S n k ++ ((S k, (k : Int)) :: upT f k (t + 1)))) := by rw [HM.out]; exact hset8
                have HO8 : Hid (Only bl w4 w8) := HO7.out.trans hon8
                clear hset8 hon8 HO7 HSH
                go_wp2_with fail
                go_roundw
                case measure => simp [intOf]; omega
                case rel => exact ⟨t + 1, by omega, by go_num, HS8.out, HO8.out⟩
          · have htn2 : t = n := by omega
            subst htn2
            have HS5 : Hid (SetAt wr p bl t (allS f S t (k + 1))) := by rw [allS_step]; exact HST.out
            have HO5 : Hid (Only bl W wr) := hon5
            clear hset hon HST HON hon5
            go_wp2_with fail
            go_roundw
            case measure => simp [intOf]; omega
            case rel => exact ⟨k + 1, by omega, by go_num, HS5.out, HO5.out⟩
    · have hkn : k = n := by omega
      subst hkn
      obtain ⟨s0, s1, hmat, _⟩ := HST.out
      have HMAT : Hid (MatAt wr bl k (allS f S k k)) := hmat
      have hblk : wr.heap[w.heap.size]? = w2.heap[w.heap.size]? := (HON.out.block w.heap.size (by have := hbW.size; omega) (by omega)).trans HDW.out
      have d0 := (World.cell?_of_block (w := w2) (a := ⟨w.heap.size, 0, none⟩) hblk).trans HD.out.1
      have d1 := (World.cell?_of_block (w := w2) (a := ⟨w.heap.size, 1, none⟩) hblk).trans HD.out.2.1
      have z0 := (World.frozen?_of_block (w := w2) (a := ⟨w.heap.size, 0, none⟩) hblk).trans HD.out.2.2.1
      have z1 := (World.frozen?_of_block (w := w2) (a := ⟨w.heap.size, 1, none⟩) hblk).trans HD.out.2.2.2
      clear hset hon HST HON hmat hblk
      go_wp2_with fail
      refine bodyPost_ret (v := .agg #[.int .i64 k, .slice (some ⟨bl, 0, none⟩) (k * k) (k * k)]) (by simp [results, Tryz.results102, go_sem, *]) rfl ⟨bl, by rw [HN.out], by omega, ?_, (hbr.setCell (Nat.le_refl _) _).setCell (Nat.le_refl _) _⟩
      rw [HN.out]
      exact World.rowIs.setOther (World.rowIs.setOther HMAT.out (by simp; omega) _) (by simp; omega) _

end Go.Proofs.YtomijmikkbhgmaaGreat

namespace Go.Proofs.YtomijmikkbhgmaaGreat
open Go.RowKit

def cohQ (_ _ : Nat) (a b : Evt) : Bool := a.thread == b.thread && sameB a b

set_option maxRecDepth 20000 in
set_option maxHeartbeats 1000000 in
theorem isIncoherent_any (E : List Evt) (hE : E.length ≤ 96) (S R : Nat → Int) (v vs vr : Value) (w : World) (h : Ev4Cap w v E) (hs : IntAt w vs ((List.range E.length).map S)) (hr : IntAt w vr ((List.range E.length).map R)) :
    Calls Tryz.prog 100 #[v, vs, vr] w fun e w' => ∃ bb : Bool, e = .returned (.bool bb) ∧ (bb = true ↔ Cyc E.length (allS (exF E R) S E.length E.length ++ allU (pairB E cohQ) E.length)) ∧ Below w.heap.size w w' := by
  have HX : Hid (Calls Tryz.prog 102 #[v, vs, vr] w fun e w' => ∃ bl, e = .returned (.agg #[.int .i64 E.length, .slice (some ⟨bl, 0, none⟩) (E.length * E.length) (E.length * E.length)]) ∧ w.heap.size ≤ bl ∧ MatAt w' bl E.length (allS (exF E R) S E.length E.length) ∧ Below w.heap.size w w') := executed_any E hE S R v vs vr w h.at' hs hr
  obtain ⟨aos, caps, hvs⟩ := hs.form
  obtain ⟨aor, capr, hvr⟩ := hr.form
  obtain ⟨ao, b, off, cap, ⟨hv, ha, _, hc⟩, hcap⟩ := h
  rw [List.length_map, List.length_range] at hvs hvr
  subst hv hvs hvr
  have HC : Hid (∀ k y, E[k]? = some y → Ev4C w b (off + k * 4) y) := hc
  have HF : Hid (∀ (i j : Nat) (x y : Evt), E[i]? = some x → E[j]? = some y → pairB E cohQ i j = (x.thread == y.thread && sameB x y)) := fun i j x y hi hj => pairB_get hi hj _
  generalize pairB E cohQ = f at HF ⊢
  generalize allS (exF E R) S E.length E.length = A0 at HX ⊢
  have HE : Hid (∀ k, k < E.length → ∃ y, E[k]? = some y) := fun k hk => get_of_lt hk
  have HNE : Hid (0 < E.length → ao = some ⟨b, off, none⟩) := fun h0 => ha (ne_nil (k := 0) h0)
  clear hc hs hr ha
  generalize E.length = n at *
  go_enter Tryz.func100, Tryz.ntmps100
  go_wp2_with fail
  refine HX.out.mono ?_
  rintro e w2 ⟨bl, rfl, hblw, hm2, hb2⟩
  have hs2 : bl < w2.heap.size := hm2.lt
  have hba := below_alloc w2 (.cells #[.int .i64 n, .slice (some ⟨bl, 0, none⟩) (n * n) (n * n)] 141)
  have HST0 : Hid (SetAt (w2.alloc (.cells #[.int .i64 n, .slice (some ⟨bl, 0, none⟩) (n * n) (n * n)] 141)) w2.heap.size bl n (A0 ++ allU f 0)) := ⟨by simp, by simp, by show MatAt _ bl n (A0 ++ []); rw [List.append_nil]; exact hm2.keep hba, by omega⟩
  have hbW : Below w.heap.size w (w2.alloc (.cells #[.int .i64 n, .slice (some ⟨bl, 0, none⟩) (n * n) (n * n)] 141)) := hb2.alloc hb2.size _
  have hsW : bl < (w2.alloc (.cells #[.int .i64 n, .slice (some ⟨bl, 0, none⟩) (n * n) (n * n)] 141)).heap.size := by simp; omega
  clear hm2 hb2 hba HX
  go_wp2_with fail
  generalize w2.alloc (.cells #[.int .i64 n, .slice (some ⟨bl, 0, none⟩) (n * n) (n * n)] 141) = W at HST0 hbW hsW ⊢
  generalize w2.heap.size = p at *
  go_loopw [18] (fun i wr => ∃ k : Nat, k ≤ n ∧ i = .int .i64 k ∧ Hid (SetAt wr p bl n (A0 ++ allU f k)) ∧ Hid (Only bl W wr)) (fun i _ => n - (intOf i).toNat)
  case atStart => exact ⟨0, Nat.zero_le _, rfl, HST0.out, Only.refl _ _⟩
  case round =>
    clear HST0
    obtain ⟨k, hk, rfl, hset, hon⟩ := hrel
    have hbr : Below w.heap.size w wr := hbW.trans (hon.out.below hblw hbW.size)
    have hszr := hon.out.size
    by_cases hlt : k < n
    · obtain ⟨y, hy⟩ := HE.out k hlt
      have HY : Hid (E[k]? = some y) := hy
      obtain rfl := HNE.out (by omega)
      obtain ⟨c0, c1, c2, c3⟩ := ev4C_keeps _ _ _ _ _ hbr (HC.out k y hy)
      have m0 := World.block_lt_of_cell? _ _ c0
      simp only at m0
      have hkI : (k : Int) < (n : Int) := by omega
      have hkc : (k : Int) ≤ (cap : Int) := by omega
      have hba := below_alloc wr (.cells #[.int .i64 y.thread, .int .i64 y.place, .int .i64 y.kind, .int .i64 y.loc] 75)
      have HB4 : Hid (Box4 (wr.alloc (.cells #[.int .i64 y.thread, .int .i64 y.place, .int .i64 y.kind, .int .i64 y.loc] 75)) wr.heap.size y) := box4_new wr y _
      have HS4 : Hid (SetAt (wr.alloc (.cells #[.int .i64 y.thread, .int .i64 y.place, .int .i64 y.kind, .int .i64 y.loc] 75)) p bl n (A0 ++ (allU f k ++ upT f k 0))) := by
        show SetAt _ p bl n (A0 ++ (allU f k ++ []))
        rw [List.append_nil]; exact hset.out.keep hba
      have HON4 : Hid (Only bl W (wr.alloc (.cells #[.int .i64 y.thread, .int .i64 y.place, .int .i64 y.kind, .int .i64 y.loc] 75))) := hon.out.trans (Only.of_below hba)
      have hsz4 : wr.heap.size < (wr.alloc (.cells #[.int .i64 y.thread, .int .i64 y.place, .int .i64 y.kind, .int .i64 y.loc] 75)).heap.size := by simp
      clear hset hon hy hba
      go_wp2_with fail
      clear c0 c1 c2 c3 m0
      generalize wr.alloc (.cells #[.int .i64 y.thread, .int .i64 y.place, .int .i64 y.kind, .int .i64 y.loc] 75) = w4 at HB4 HS4 HON4 hsz4 ⊢
      generalize wr.heap.size = q9 at HB4 hszr hsz4 ⊢
      go_loopw [27] (fun i wr => ∃ t : Nat, t ≤ k ∧ i = .int .i64 t ∧ Hid (SetAt wr p bl n (A0 ++ (allU f k ++ upT f k t))) ∧ Hid (Only bl w4 wr)) (fun i _ => k - (intOf i).toNat)
      case atStart => exact ⟨0, Nat.zero_le _, rfl, HS4.out, Only.refl _ _⟩
      case round =>
        clear HS4
        obtain ⟨t, ht, rfl, hset, hon⟩ := hrel
        have hon5 : Only bl W wr := HON4.out.trans hon.out
        have hbr5 : Below w.heap.size w wr := hbW.trans (hon5.below hblw hbW.size)
        have hs5 := hon.out.size
        by_cases htn : t < k
        · obtain ⟨x, hx⟩ := HE.out t (by omega)
          have HFV : Hid (f t k = (x.thread == y.thread && sameB x y)) := HF.out t k x y hx HY.out
          obtain ⟨c0, c1, c2, c3⟩ := ev4C_keeps _ _ _ _ _ hbr5 (HC.out t x hx)
          have m0 := World.block_lt_of_cell? _ _ c0
          simp only at m0
          have htI : (t : Int) < (k : Int) := by omega
          have HNO : Hid (f t k = false → upT f k (t + 1) = upT f k t) := fun h => upT_no h
          have HYES : Hid (f t k = true → A0 ++ (allU f k ++ upT f k (t + 1)) = (A0 ++ (allU f k ++ upT f k t)) ++ [((t : Int), (k : Int))]) := fun h => by rw [upT_yes h]; simp
          have hba := below_alloc wr (.cells #[.int .i64 x.thread, .int .i64 x.place, .int .i64 x.kind, .int .i64 x.loc] 75)
          have hX1 := box4_new wr x 75
          have hX2 := (HB4.out.only hon.out (by omega)).keep hba
          have HSA : Hid (SetAt (wr.alloc (.cells #[.int .i64 x.thread, .int .i64 x.place, .int .i64 x.kind, .int .i64 x.loc] 75)) p bl n (A0 ++ (allU f k ++ upT f k t))) := hset.out.keep hba
          have HOA : Hid (Only bl w4 (wr.alloc (.cells #[.int .i64 x.thread, .int .i64 x.place, .int .i64 x.kind, .int .i64 x.loc] 75))) := hon.out.trans (Only.of_below hba)
          obtain ⟨y0, y1, y2, y3⟩ := HB4.out.only hon.out (by omega)
          have m1 := World.block_lt_of_cell? _ _ y0
          simp only at m1
          clear hset hon hx hba
          cases hth : x.thread == y.thread
          · have HM : Hid (upT f k (t + 1) = upT f k t) := HNO.out (HFV.out.trans (by rw [hth]; rfl))
            have HS7 : Hid (SetAt (wr.alloc (.cells #[.int .i64 x.thread, .int .i64 x.place, .int .i64 x.kind, .int .i64 x.loc] 75)) p bl n (A0 ++ (allU f k ++ upT f k (t + 1)))) := by rw [HM.out]; exact HSA.out
            clear HSA hX1 hX2
            go_wp2_with fail
            go_roundw
            case measure => simp [intOf]; omega
            case rel => exact ⟨t + 1, by omega, by go_num, HS7.out, HOA.out⟩
          · have HFV2 : Hid (f t k = sameB x y) := HFV.out.trans (by rw [hth]; rfl)
            generalize hsB : sameB x y = SB at HFV2
            have HSB : Hid (sameB x y = SB) := hsB
            clear hsB hX1 hX2
            go_wp2_with fail
            refine (isSameLoc_any x y _).mono ?_
            rw [HSB.out]
            rintro e w7 ⟨rfl, hb7⟩
            have hS7 := HSA.out.keep hb7
            have HO7 : Hid (Only bl w4 w7) := HOA.out.trans (Only.of_below hb7)
            clear HSA HOA c0 c1 c2 c3 m0 y0 y1 y2 y3 hb7
            cases SB
            · have HM : Hid (upT f k (t + 1) = upT f k t) := HNO.out HFV2.out
              have HS7 : Hid (SetAt w7 p bl n (A0 ++ (allU f k ++ upT f k (t + 1)))) := by rw [HM.out]; exact hS7
              clear hS7
              go_wp2_with fail
              go_roundw
              case measure => simp [intOf]; omega
              case rel => exact ⟨t + 1, by omega, by go_num, HS7.out, HO7.out⟩
            · have HM : Hid (A0 ++ (allU f k ++ upT f k (t + 1)) = (A0 ++ (allU f k ++ upT f k t)) ++ [((t : Int), (k : Int))]) := HYES.out HFV2.out
              have HSH : Hid (SetAt w7 p bl n (A0 ++ (allU f k ++ upT f k t))) := hS7
              clear hS7
              go_wp2_with fail
              refine (add_any n hE _ p bl (t : Int) (k : Int) _ HSH.out).mono ?_
              rintro e w8 ⟨r8, rfl, hset8, hon8⟩
              have HS8 : Hid (SetAt w8 p bl n (A0 ++ (allU f k ++ upT f k (t + 1)))) := by rw [HM.out]; exact hset8
              have HO8 : Hid (Only bl w4 w8) := HO7.out.trans hon8
              clear hset8 hon8 HO7 HSH
              go_wp2_with fail
              go_roundw
              case measure => simp [intOf]; omega
              case rel => exact ⟨t + 1, by omega, by go_num, HS8.out, HO8.out⟩
        · have htn2 : t = k := by omega
          subst htn2
          have HS5 : Hid (SetAt wr p bl n (A0 ++ allU f (t + 1))) := by rw [allU_step]; exact hset.out
          have HO5 : Hid (Only bl W wr) := hon5
          clear hset hon hon5
          go_wp2_with fail
          go_roundw
          case measure => simp [intOf]; omega
          case rel => exact ⟨t + 1, by omega, by go_num, HS5.out, HO5.out⟩
    · have hkn : k = n := by omega
      subst hkn
      have HST := hset
      clear hset hon
      go_wp2_with fail
      refine (hasCircle_any k hE _ p bl _ HST.out).mono ?_
      rintro e w5 ⟨bb, rfl, hbb, hb5⟩
      have HBB : Hid (bb = true ↔ Cyc k (A0 ++ allU f k)) := hbb
      clear hbb
      go_wp2_with fail
      go_ret
      exact ⟨_, rfl, HBB.out, below_more hbr hb5⟩

end Go.Proofs.YtomijmikkbhgmaaGreat
