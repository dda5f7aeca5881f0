import Derived.Test.YtomijmikkbhgmabT38
import Derived.Test.YtomijmikkbhgmabT13
namespace Go.Proofs.Ytomijmikkbhgmab

/-! each execution is a candidate -/
theorem picks_of_zip (E R : List Evt) (i : Nat) (F : List Int) (hl : F.length = (rdsX R i).length) (h : ∀ q ∈ (rdsX R i).zip F, q.2 = -1 ∨ q.2 ∈ wrs E 0 q.1.2.loc) : picks F (rdo E R) := by
  induction R generalizing i F with
  | nil =>
    have : F = [] := List.eq_nil_of_length_eq_zero (by simpa [rdsX] using hl)
    subst this
    exact True.intro
  | cons y R ih =>
    unfold rdo
    cases hk : y.kind == 0
    · rw [rdsX_mis hk] at hl h
      exact ih (i + 1) F hl h
    · rw [rdsX_hit hk] at hl h
      cases F with
      | nil => simp at hl
      | cons a F =>
        rw [List.zip_cons_cons] at h
        refine ⟨?_, ih (i + 1) F (by simpa using hl) (fun q hq => h q (List.mem_cons_of_mem _ hq))⟩
        rcases h ((i, y), a) (List.mem_cons_self ..) with e | e
        · exact List.mem_cons.2 (.inl e)
        · exact List.mem_cons_of_mem _ e

theorem picks_mem {F : List Int} {os : List (List Int)} (h : picks F os) : F ∈ allF os := by
  induction os generalizing F with
  | nil => cases F with
    | nil => exact List.mem_singleton.2 rfl
    | cons a F => exact absurd h (by simp [picks])
  | cons o os ih =>
    cases F with
    | nil => exact absurd h (by simp [picks])
    | cons a F =>
      have h' : a ∈ o ∧ picks F os := h
      exact List.mem_flatMap.2 ⟨a, h'.1, List.mem_map.2 ⟨F, ih h'.2, rfl⟩⟩

theorem perm_ordN (m : Nat) (l p : List Int) (hl : l.length = m) (hp : p.Perm l) : p ∈ ordN m l := by
  induction m generalizing l p with
  | zero =>
    have : l = [] := List.eq_nil_of_length_eq_zero hl
    subst this
    have : p = [] := List.Perm.eq_nil hp
    subst this
    exact List.mem_singleton.2 rfl
  | succ m ih =>
    cases p with
    | nil => have := hp.length_eq; rw [hl] at this; simp at this
    | cons a p =>
      have ha : a ∈ l := hp.mem_iff.1 (List.mem_cons_self ..)
      obtain ⟨i, hi⟩ := List.mem_iff_getElem?.1 ha
      have hil : i < l.length := (List.getElem?_eq_some_iff.1 hi).1
      have hia : l[i] = a := (List.getElem?_eq_some_iff.1 hi).2
      have e : l = l.take i ++ a :: l.drop (i + 1) := by rw [← hia, ← List.drop_eq_getElem_cons hil, List.take_append_drop]
      have hp2 : p.Perm (l.eraseIdx i) := by
        rw [List.eraseIdx_eq_take_drop_succ]
        have h1 : (a :: p).Perm (l.take i ++ a :: l.drop (i + 1)) := by rw [← e]; exact hp
        exact (List.perm_cons a).1 (h1.trans List.perm_middle)
      unfold ordN
      refine List.mem_flatMap.2 ⟨i, List.mem_range.2 hil, List.mem_map.2 ⟨p, ih _ p (by rw [List.length_eraseIdx, if_pos hil]; omega) hp2, ?_⟩⟩
      rw [List.getD, hi]; rfl

theorem IsEx.mem {E : List Evt} {x : Exe} (h : IsEx E x) : ∃ n, n < sizeN E ∧ exN E n = x := by
  have hF := picks_mem (picks_of_zip E E 0 x.from' h.f h.fw)
  obtain ⟨a, b, c, ho⟩ : ∃ a b c, x.order = [a, b, c] := by
    have h3 := h.o3
    match hx : x.order, h3 with
    | [a, b, c], _ => exact ⟨a, b, c, rfl⟩
  have hperm : ∀ (j : Nat) (l : List Int), x.order[j]? = some l → l ∈ ords E (j : Int) := fun j l hl => by
    obtain ⟨h1, h2⟩ := h.od j l hl
    exact perm_ordN _ _ _ rfl ((List.perm_ext_iff_of_nodup h1 (wrs_nodup E _)).2 h2)
  have ha := hperm 0 a (by rw [ho]; rfl)
  have hb := hperm 1 b (by rw [ho]; rfl)
  have hc := hperm 2 c (by rw [ho]; rfl)
  have hx : x ∈ exs E := by
    unfold exs
    refine List.mem_flatMap.2 ⟨x.from', hF, List.mem_flatMap.2 ⟨a, ha, List.mem_flatMap.2 ⟨b, hb, List.mem_map.2 ⟨c, hc, ?_⟩⟩⟩⟩
    cases x
    simp only at ho
    rw [ho]
  obtain ⟨n, hn⟩ := List.mem_iff_getElem?.1 hx
  have hlt : n < sizeN E := by have := (List.getElem?_eq_some_iff.1 hn).1; rw [exs_len] at this; exact this
  rw [exs_at E n hlt] at hn
  exact ⟨n, hlt, Option.some.inj hn⟩

/-! arrows that lead on -/
theorem fwd_acyclic {n : Nat} {A : List (Int × Int)} (h : ∀ p ∈ A, p.1 < p.2) : ¬ Cyc n A := by
  rintro ⟨S, ⟨b, hb, hS⟩, hc⟩
  have key : ∀ (k b : Nat), b ≤ k → b < n → S b → False := by
    intro k
    induction k with
    | zero =>
      intro b h1 h2 h3
      obtain ⟨a, _, _, hA⟩ := hc b h2 h3
      have := h _ hA
      simp only at this
      omega
    | succ k ih =>
      intro b h1 h2 h3
      obtain ⟨a, ha, hSa, hA⟩ := hc b h2 h3
      have := h _ hA
      simp only at this
      exact ih a (by omega) ha hSa
  exact key b b (Nat.le_refl _) hb hS

theorem fwd_parts {n : Nat} {ms : List Mt} {A : List (Int × Int)} (hA : ∀ p ∈ A, p.1 < p.2) (hm : ∀ m ∈ ms, m.e < m.f ∨ m.s < m.b) : Parts n ms A := by
  induction ms generalizing A with
  | nil => exact fwd_acyclic hA
  | cons m ms ih =>
    have more : ∀ p : Int × Int, p.1 < p.2 → ∀ q ∈ A ++ [p], q.1 < q.2 := fun p hp q hq => by
      rcases List.mem_append.1 hq with h | h
      · exact hA q h
      · have : q = p := by simpa using h
        rw [this]; exact hp
    refine ⟨fwd_acyclic hA, ?_⟩
    rcases hm m (List.mem_cons_self ..) with h | h
    · exact .inl (ih (more (pick false m) h) (fun m' hm' => hm m' (List.mem_cons_of_mem _ hm')))
    · exact .inr (ih (more (pick true m) h) (fun m' hm' => hm m' (List.mem_cons_of_mem _ hm')))

theorem rdsX_mem {E : List Evt} {i r : Nat} {y : Evt} (h : (r, y) ∈ rdsX E i) : i ≤ r ∧ E[r - i]? = some y ∧ y.kind = 0 := by
  induction E generalizing i with
  | nil => simp [rdsX] at h
  | cons x E ih =>
    have key : (r, y) ∈ rdsX E (i + 1) → i ≤ r ∧ (x :: E)[r - i]? = some y ∧ y.kind = 0 := fun h => by
      obtain ⟨h1, h2, h3⟩ := ih h
      exact ⟨by omega, by rw [show r - i = (r - (i + 1)) + 1 by omega]; simpa using h2, h3⟩
    cases hk : x.kind == 0
    · rw [rdsX_mis hk] at h; exact key h
    · rw [rdsX_hit hk] at h
      rcases List.mem_cons.1 h with e | h
      · cases e
        exact ⟨Nat.le_refl _, by simp, by simpa using hk⟩
      · exact key h

/-- The last Write of a location ahead of an event. -/
def lastW (E : List Evt) (loc : Int) (r : Nat) : Int := ((wrs (E.take r) 0 loc).getLast?).getD (-1)
theorem lastW_spec (E : List Evt) (loc : Int) (r : Nat) : (lastW E loc r = -1 ∧ ∀ b ∈ wrs E 0 loc, (r : Int) ≤ b) ∨ (lastW E loc r ∈ wrs E 0 loc ∧ lastW E loc r < (r : Int) ∧ lastW E loc r ≠ -1 ∧ ∀ b ∈ wrs E 0 loc, b ≤ lastW E loc r ∨ (r : Int) ≤ b) := by
  have htk : ∀ {a : Int}, a ∈ wrs (E.take r) 0 loc ↔ a ∈ wrs E 0 loc ∧ a < (r : Int) := by
    intro a
    rw [wrs_iff, wrs_iff]
    constructor
    · rintro ⟨i, y, h1, h2, h3⟩
      have hi : i < r := by have := (List.getElem?_eq_some_iff.1 h1).1; rw [List.length_take] at this; omega
      rw [List.getElem?_take_of_lt hi] at h1
      exact ⟨⟨i, y, h1, h2, h3⟩, by omega⟩
    · rintro ⟨⟨i, y, h1, h2, h3⟩, h4⟩
      exact ⟨i, y, by rw [List.getElem?_take_of_lt (by omega)]; exact h1, h2, h3⟩
  unfold lastW
  cases hl : (wrs (E.take r) 0 loc).getLast? with
  | none =>
    have hn : wrs (E.take r) 0 loc = [] := List.getLast?_eq_none_iff.1 hl
    refine .inl ⟨rfl, fun b hb => Int.not_lt.1 fun hlt => ?_⟩
    have := htk.2 ⟨hb, hlt⟩
    rw [hn] at this
    cases this
  | some a =>
    have ham : a ∈ wrs (E.take r) 0 loc := List.mem_of_getLast? hl
    obtain ⟨h1, h2⟩ := htk.1 ham
    refine .inr ⟨h1, h2, ?_, fun b hb => ?_⟩
    · obtain ⟨i, y, _, e, _⟩ := wrs_iff.1 h1
      show a ≠ -1
      omega
    · by_cases hbr : (r : Int) ≤ b
      · exact .inr hbr
      · refine .inl ?_
        have hbm := htk.2 ⟨hb, by omega⟩
        obtain ⟨l', hl'⟩ := List.getLast?_eq_some_iff.1 hl
        rw [hl'] at hbm
        have hs := wrs_sorted (E.take r) 0 loc
        rw [hl', List.pairwise_append] at hs
        rcases List.mem_append.1 hbm with h | h
        · have := hs.2.2 b h a (List.mem_singleton.2 rfl)
          show b ≤ a
          omega
        · have : b = a := by simpa using h
          show b ≤ a
          omega

theorem restG_gt {l : List Int} (hs : l.Pairwise (· < ·)) {f b : Int} (h : b ∈ restG l f) : f < b := by
  induction l with
  | nil => simp [restG] at h
  | cons x l ih =>
    rw [List.pairwise_cons] at hs
    unfold restG at h
    split at h
    · rename_i hx
      have : x = f := by simpa using hx
      rw [← this]; exact hs.1 b h
    · exact ih hs.2 h
theorem restG_in {l : List Int} (hs : l.Pairwise (· < ·)) {f b : Int} (hf : f ∈ l) (hb : b ∈ l) (hlt : f < b) : b ∈ restG l f := by
  induction l with
  | nil => cases hf
  | cons x l ih =>
    rw [List.pairwise_cons] at hs
    unfold restG
    split
    · rename_i hx
      have : x = f := by simpa using hx
      rcases List.mem_cons.1 hb with e | e
      · omega
      · exact e
    · rename_i hx
      have hxf : x ≠ f := by simpa using hx
      have hf' : f ∈ l := by rcases List.mem_cons.1 hf with e | e; exact absurd e.symm hxf; exact e
      have hb' : b ∈ l := by
        rcases List.mem_cons.1 hb with e | e
        · have := hs.1 f hf'; omega
        · exact e
      exact ih hs.2 hf' hb'
theorem restG_sorted {l : List Int} (hs : l.Pairwise (· < ·)) (f : Int) : (restG l f).Pairwise (· < ·) := by
  induction l with
  | nil => simp [restG]
  | cons x l ih =>
    rw [List.pairwise_cons] at hs
    unfold restG
    split
    · exact hs.2
    · exact ih hs.2
theorem tailsL_lt {l : List Int} (hs : l.Pairwise (· < ·)) {p : Int × Int} (h : p ∈ tailsL l) : p.1 < p.2 := by
  induction l with
  | nil => simp [tailsL] at h
  | cons a l ih =>
    rw [List.pairwise_cons] at hs
    unfold tailsL at h
    rcases List.mem_append.1 h with h | h
    · obtain ⟨h1, h2⟩ := fanL_mem.1 h
      rw [h1]; exact hs.1 _ h2
    · exact ih hs.2 h

/-- The threads run one after the other. -/
def seqX (E : List Evt) : Exe := ⟨(rdsX E 0).map fun p => lastW E p.2.loc p.1, [wrs E 0 0, wrs E 0 1, wrs E 0 2]⟩
theorem zip_self {α β : Type} (l : List α) (g : α → β) : l.zip (l.map g) = l.map fun p => (p, g p) := by
  induction l with
  | nil => rfl
  | cons a l ih => rw [List.map_cons, List.zip_cons_cons, ih]; rfl
theorem seqX_ord (E : List Evt) {loc : Int} (h : locB loc = true) : ordAt (seqX E) loc = wrs E 0 loc := by
  unfold locB at h
  simp only [Bool.and_eq_true, decide_eq_true_eq] at h
  have : loc = 0 ∨ loc = 1 ∨ loc = 2 := by omega
  rcases this with rfl | rfl | rfl <;> rfl

theorem seqX_isEx (E : List Evt) : IsEx E (seqX E) := by
  refine ⟨by simp [seqX], fun q hq => ?_, rfl, fun j l hl => ?_⟩
  · unfold seqX at hq
    simp only at hq
    rw [zip_self] at hq
    obtain ⟨⟨r, y⟩, hp, rfl⟩ := List.mem_map.1 hq
    rcases lastW_spec E y.loc r with ⟨h, _⟩ | ⟨h, _⟩
    · exact .inl h
    · exact .inr h
  · match j, hl with
    | 0, hl => simp [seqX] at hl; subst hl; exact ⟨wrs_nodup _ _, fun _ => Iff.rfl⟩
    | 1, hl => simp [seqX] at hl; subst hl; exact ⟨wrs_nodup _ _, fun _ => Iff.rfl⟩
    | 2, hl => simp [seqX] at hl; subst hl; exact ⟨wrs_nodup _ _, fun _ => Iff.rfl⟩
    | j + 3, hl => simp [seqX] at hl

/-- What stands behind what a Read reads from comes behind it. -/
theorem seqX_rest {E : List Evt} {r : Nat} {y : Evt} (hy : E[r]? = some y) (hk : y.kind = 0) {b : Int} (h : b ∈ restL (wrs E 0 y.loc) (lastW E y.loc r)) : (r : Int) < b := by
  have hb : b ∈ wrs E 0 y.loc := restL_mem h
  have hne : b ≠ (r : Int) := fun e => by
    obtain ⟨i, z, h1, h2, h3, _⟩ := wrs_iff.1 hb
    have hir : i = r := by omega
    subst hir
    rw [hy] at h1
    cases h1
    omega
  rcases lastW_spec E y.loc r with ⟨_, h2⟩ | ⟨_, _, h3, h4⟩
  · have := h2 b hb; omega
  · unfold restL at h
    rw [if_neg (by simpa using h3)] at h
    have := restG_gt (wrs_sorted E 0 y.loc) h
    rcases h4 b hb with h5 | h5
    · omega
    · omega

theorem seqX_arw {E : List Evt} (hloc : ∀ y ∈ E, locB y.loc = true) : ∀ p ∈ arwL E (seqX E), p.1 < p.2 := by
  intro p hp
  unfold arwL at hp
  rcases List.mem_append.1 hp with hp | hp
  · obtain ⟨q, hq, hp⟩ := List.mem_flatMap.1 hp
    unfold seqX at hq
    simp only at hq
    rw [zip_self] at hq
    obtain ⟨⟨r, y⟩, hp0, rfl⟩ := List.mem_map.1 hq
    obtain ⟨_, hy, hk⟩ := rdsX_mem hp0
    rw [Nat.sub_zero] at hy
    unfold arw1 at hp
    simp only at hp
    rcases List.mem_append.1 hp with hp | hp
    · split at hp
      · cases hp
      · have : p = (lastW E y.loc r, (r : Int)) := by simpa using hp
        rw [this]
        rename_i hne
        rcases lastW_spec E y.loc r with ⟨h, _⟩ | ⟨_, h, _⟩
        · rw [h] at hne; simp at hne
        · exact h
    · obtain ⟨h1, h2⟩ := fanL_mem.1 hp
      rw [seqX_ord E (hloc y (List.mem_of_getElem? hy))] at h2
      rw [h1]
      exact seqX_rest hy hk h2
  · obtain ⟨l, hl, hp⟩ := List.mem_flatMap.1 hp
    have hl3 : l = wrs E 0 0 ∨ l = wrs E 0 1 ∨ l = wrs E 0 2 := by simpa [seqX] using hl
    rcases hl3 with rfl | rfl | rfl <;> exact tailsL_lt (wrs_sorted E 0 _) hp

theorem allD_lt {f : Nat → Nat → Bool} {n k : Nat} : ∀ p ∈ allD f n k, p.1 < p.2 := by
  intro p hp
  unfold allD at hp
  obtain ⟨i, _, hp⟩ := List.mem_flatMap.1 hp
  unfold dnT at hp
  obtain ⟨j, hj, rfl⟩ := List.mem_map.1 hp
  have := (List.mem_filter.1 hj).2
  simp only [Bool.and_eq_true, decide_eq_true_eq] at this
  show (i : Int) < (j : Int)
  omega

theorem seqX_torn {T : List (List Ins)} {E : List Evt} (hE : E = evsT T 0) (hloc : ∀ y ∈ E, locB y.loc = true) : tornB E (seqX E) = false := by
  cases ht : tornB E (seqX E)
  · rfl
  · exfalso
    unfold tornB at ht
    obtain ⟨q, hq, ht⟩ := List.any_eq_true.1 ht
    unfold seqX at hq
    simp only at hq
    rw [zip_self] at hq
    obtain ⟨⟨r, y⟩, hp0, rfl⟩ := List.mem_map.1 hq
    obtain ⟨_, hy, hk⟩ := rdsX_mem hp0
    rw [Nat.sub_zero] at hy
    unfold torn1 at ht
    simp only [Bool.and_eq_true, beq_iff_eq] at ht
    obtain ⟨hop, hhd⟩ := ht
    have hsw : SwOk E := by rw [hE]; exact swOk_T T 0
    obtain ⟨z, hz, hzk, hzl⟩ : ∃ z, E[r + 1]? = some z ∧ z.kind = 1 ∧ z.loc = y.loc := ⟨_, hsw.s1 r y hy hk hop, rfl, rfl⟩
    rw [seqX_ord E (hloc y (List.mem_of_getElem? hy))] at hhd
    have hmem : ((r + 1 : Nat) : Int) ∈ restL (wrs E 0 y.loc) (lastW E y.loc r) := by
      have hw : ((r + 1 : Nat) : Int) ∈ wrs E 0 y.loc := wrs_iff.2 ⟨r + 1, z, hz, rfl, hzk, hzl⟩
      unfold restL
      rcases lastW_spec E y.loc r with ⟨h, _⟩ | ⟨h1, h2, h3, _⟩
      · rw [h]; simpa using hw
      · rw [if_neg (by simpa using h3)]
        exact restG_in (wrs_sorted E 0 y.loc) h1 hw (by omega)
    have hall : ∀ b ∈ restL (wrs E 0 y.loc) (lastW E y.loc r), (r : Int) < b := fun b hb => seqX_rest hy hk hb
    have hsrt : (restL (wrs E 0 y.loc) (lastW E y.loc r)).Pairwise (· < ·) := by
      unfold restL
      split
      · exact wrs_sorted E 0 _
      · exact restG_sorted (wrs_sorted E 0 _) _
    generalize restL (wrs E 0 y.loc) (lastW E y.loc r) = L at *
    cases L with
    | nil => cases hmem
    | cons a L =>
      rw [List.pairwise_cons] at hsrt
      have h1 := hall a (List.mem_cons_self ..)
      have h2 : a = (r : Int) + 1 := by
        rcases List.mem_cons.1 hmem with e | e
        · omega
        · have := hsrt.1 _ e
          omega
      simp [headNe, h2] at hhd

/-! sections -/
def acc : Bool → List Evt → Option Bool
  | st, [] => some st
  | st, y :: E => if y.kind == 2 then (if st then none else acc true E) else if y.kind == 3 then (if st then acc false E else none) else if y.kind == 4 || y.kind == 5 then (if st then none else acc st E) else acc st E

theorem acc_append (st : Bool) (A B : List Evt) : acc st (A ++ B) = (acc st A).bind fun s => acc s B := by
  induction A generalizing st with
  | nil => rfl
  | cons y A ih =>
    rw [List.cons_append, acc, acc]
    cases y.kind == 2 <;> cases y.kind == 3 <;> cases (y.kind == 4 || y.kind == 5) <;> cases st <;> simp [ih]

theorem thoL_ge {kd : Int} {E : List Evt} {i : Nat} {a : Int} (h : a ∈ thoL kd E i) : (i : Int) ≤ a := by
  obtain ⟨k, _, _, _, e⟩ := thoL_mem h
  omega

/-- A section and a Sync: one is over ahead of the other one. -/
def Apt (bs es ss : List Int) : Prop := ∀ p ∈ bs.zip es, ∀ s ∈ ss, p.2 < s ∨ s < p.1

theorem acc_apart (E : List Evt) : (∀ i, acc false E = some false → Apt (thoL 2 E i) (thoL 3 E i) (thoL 4 E i)) ∧ (∀ i, acc true E = some false → ∃ e0 rest, thoL 3 E i = e0 :: rest ∧ (∀ s ∈ thoL 4 E i, e0 < s) ∧ Apt (thoL 2 E i) rest (thoL 4 E i)) := by
  induction E with
  | nil => exact ⟨fun i _ p hp => by simp [thoL] at hp, fun i h => by simp [acc] at h⟩
  | cons y E ih =>
    obtain ⟨ih1, ih2⟩ := ih
    have other : ∀ {st : Bool}, acc st (y :: E) = some false → (y.kind == 2) = false → (y.kind == 3) = false → (y.kind == 4) = false → acc st E = some false := by
      intro st h k2 k3 k4
      rw [acc, k2, k3, k4] at h
      cases k5 : y.kind == 5
      · rw [k5] at h; simpa using h
      · rw [k5] at h
        cases st
        · simpa using h
        · simp at h
    constructor
    · intro i h
      cases k2 : y.kind == 2
      · cases k3 : y.kind == 3
        · cases k4 : y.kind == 4
          · have := ih1 (i + 1) (other h k2 k3 k4)
            rw [thoL_mis k2, thoL_mis k3, thoL_mis k4]
            exact this
          · rw [thoL_mis k2, thoL_mis k3, thoL_hit k4]
            rw [acc, k2, k3, k4] at h
            have h' : acc false E = some false := by simpa using h
            intro p hp s hs
            rcases List.mem_cons.1 hs with rfl | hs
            · have := thoL_ge (List.of_mem_zip hp).1
              exact .inr (by omega)
            · exact ih1 (i + 1) h' p hp s hs
        · rw [acc, k2, k3] at h; simp at h
      · have hk : y.kind = 2 := by simpa using k2
        have k3 : (y.kind == 3) = false := by rw [hk]; rfl
        have k4 : (y.kind == 4) = false := by rw [hk]; rfl
        rw [acc, k2] at h
        have h' : acc true E = some false := by simpa using h
        obtain ⟨e0, rest, h1, h2, h3⟩ := ih2 (i + 1) h'
        rw [thoL_hit k2, thoL_mis k3, thoL_mis k4, h1]
        intro p hp s hs
        rw [List.zip_cons_cons] at hp
        rcases List.mem_cons.1 hp with rfl | hp
        · exact .inl (h2 s hs)
        · exact h3 p hp s hs
    · intro i h
      cases k2 : y.kind == 2
      · cases k3 : y.kind == 3
        · cases k4 : y.kind == 4
          · obtain ⟨e0, rest, h1, h2, h3⟩ := ih2 (i + 1) (other h k2 k3 k4)
            rw [thoL_mis k2, thoL_mis k3, thoL_mis k4]
            exact ⟨e0, rest, h1, h2, h3⟩
          · rw [acc, k2, k3, k4] at h; simp at h
        · have hk : y.kind = 3 := by simpa using k3
          have k4 : (y.kind == 4) = false := by rw [hk]; rfl
          rw [acc, k2, k3] at h
          have h' : acc false E = some false := by simpa using h
          rw [thoL_mis k2, thoL_hit k3, thoL_mis k4]
          exact ⟨_, _, rfl, fun s hs => by have := thoL_ge hs; omega, ih1 (i + 1) h'⟩
      · rw [acc, k2] at h; simp at h

theorem acc_none {ks : List Int} {i j : Nat} {x : Ins} {st : Bool} (h : ∀ k ∈ ks, k = 0 ∨ k = 1) : acc st (evsK i j x ks) = some st := by
  induction ks with
  | nil => rfl
  | cons k ks ih =>
    have hk := h k (List.mem_cons_self ..)
    show acc st (⟨i, j, k, x.loc, x⟩ :: evsK i j x ks) = some st
    rw [acc]
    rcases hk with rfl | rfl <;> exact ih (fun q hq => h q (List.mem_cons_of_mem _ hq))

theorem acc_I {i : Nat} {l : List Ins} {j : Nat} {st : Bool} (h : nst l j st < 0) : acc st (evsI i l j) = some false := by
  induction l generalizing j st with
  | nil =>
    cases st
    · rfl
    · rw [nst] at h; simp at h; omega
  | cons x l ih =>
    rw [evsI, acc_append]
    rw [nst] at h
    cases h5 : x.op == 5
    · cases h6 : x.op == 6
      · cases h7 : x.op == 7
        · rw [h5, h6, h7] at h
          simp only [Bool.false_eq_true, if_false] at h
          have hk : acc st (evsK i j x (kindsOf x.op)) = some st := by
            refine acc_none (fun k hk => ?_)
            unfold kindsOf at hk
            rw [h5, h6, h7] at hk
            simp only [Bool.false_eq_true, if_false] at hk
            split at hk
            · exact .inr (by simpa using hk)
            · split at hk
              · exact .inl (by simpa using hk)
              · split at hk
                · simpa using hk
                · cases hk
          rw [hk]
          exact ih h
        · rw [h5, h6, h7] at h
          have ho : x.op = 7 := by simpa using h7
          cases st
          · simp only [Bool.false_eq_true, if_false, if_true] at h
            have hk : acc false (evsK i j x (kindsOf x.op)) = some false := by rw [ho]; rfl
            rw [hk]
            exact ih h
          · simp at h; omega
      · rw [h5, h6] at h
        have ho : x.op = 6 := by simpa using h6
        cases st
        · simp at h; omega
        · simp only [Bool.false_eq_true, if_false, if_true] at h
          have hk : acc true (evsK i j x (kindsOf x.op)) = some false := by rw [ho]; rfl
          rw [hk]
          exact ih h
    · rw [h5] at h
      have ho : x.op = 5 := by simpa using h5
      cases st
      · simp only [Bool.false_eq_true, if_false, if_true] at h
        have hk : acc false (evsK i j x (kindsOf x.op)) = some true := by rw [ho]; rfl
        rw [hk]
        exact ih h
      · simp at h; omega

theorem acc_T {T : List (List Ins)} {i k : Nat} (h : nstF T i = none) : acc false (evsT T k) = some false := by
  induction T generalizing i k with
  | nil => rfl
  | cons l T ih =>
    rw [nstF] at h
    split at h
    · cases h
    · rename_i hn
      rw [evsT, acc_append, acc_I (by omega)]
      exact ih h

/-- There is always an allowed candidate. -/
theorem seqX_alw {T : List (List Ins)} {c : List Atm} (hz : ((chk T c).1 == 0) = true) : Alw T (evsT T 0) (seqX (evsT T 0)) := by
  have hloc := evsT_locs (i := 0) (chk_locs hz)
  have hA := seqX_arw hloc
  have hcoh : ∀ p ∈ cohA (evsT T 0) (seqX (evsT T 0)), p.1 < p.2 := fun p hp => by
    unfold cohA at hp
    rcases List.mem_append.1 hp with h | h
    · exact hA p h
    · exact allD_lt p h
  have hkep : ∀ p ∈ kepA T (evsT T 0) (seqX (evsT T 0)), p.1 < p.2 := fun p hp => by
    unfold kepA at hp
    rcases List.mem_append.1 hp with h | h
    · exact hA p h
    · exact allD_lt p h
  have hapt := (acc_apart (evsT T 0)).1 0 (acc_T (chk_nested hz).1)
  refine .inr ⟨fwd_acyclic hcoh, .inr ⟨seqX_torn rfl hloc, .inr ⟨fwd_acyclic hkep, .inr ⟨fun h => h (fwd_parts hkep (fun m hm => ?_)), rfl⟩⟩⟩⟩
  unfold mtL at hm
  obtain ⟨p, hp, hm⟩ := List.mem_flatMap.1 hm
  obtain ⟨s, hs, rfl⟩ := List.mem_map.1 hm
  rcases hapt p hp s hs with h | h
  · exact .inl (by show p.2 < s + 1; omega)
  · exact .inr h

theorem some_allowed {T : List (List Ins)} {c : List Atm} (hz : ((chk T c).1 == 0) = true) : ∃ n, n < sizeN (evsT T 0) ∧ Alw T (evsT T 0) (exN (evsT T 0) n) := by
  obtain ⟨n, hn, he⟩ := (seqX_isEx (evsT T 0)).mem
  exact ⟨n, hn, by rw [he]; exact seqX_alw hz⟩

end Go.Proofs.Ytomijmikkbhgmab

namespace Go.Proofs.Ytomijmikkbhgmab
open Go.RowKit

theorem lx_ltL (l m : List Int) : lx l m = ltL l m := by
  induction l generalizing m with
  | nil => cases m <;> simp [lx, ltL]
  | cons a l ih =>
    cases m with
    | nil => simp [lx, ltL]
    | cons b m =>
      rw [lx, ltL, ih]

set_option maxRecDepth 20000 in
set_option maxHeartbeats 2000000 in
theorem rising_any (K : List (List Int × Nat)) (hK : K.length ≤ 2000) (hl : ∀ p ∈ K, p.1.length ≤ 100) (hs : SrtK K) (h1 : ∀ p ∈ K, 1 ≤ p.2) (u : Value) (w : World) (hu : OutAt w u K) :
    Calls Try.prog 29 #[u] w fun e w' => e = .returned (.bool true) ∧ Below w.heap.size w w' := by
  obtain ⟨ao, b, off, cap, hu1, ha, _, hc⟩ := hu
  subst hu1
  have HC : Hid ((∀ k p, K[k]? = some p → OutC w b (off + k * 2) p) ∧ (∀ p ∈ K, p.1.length ≤ 100) ∧ (∀ p ∈ K, 1 ≤ p.2) ∧ ∀ i p q, K[i]? = some p → K[i + 1]? = some q → lx p.1 q.1 = true) := ⟨hc, hl, h1, fun i p q h1 h2 => (lx_ltL _ _).trans (srt_get hs (Nat.lt_succ_self i) h1 h2)⟩
  clear hc hl hs h1
  go_enter Try.func29, Try.ntmps29
  go_wp2_with fail
  go_loopw [3] (fun i wr => ∃ k : Nat, k ≤ K.length ∧ i = .int .i64 k ∧ Below w.heap.size w wr) (fun i _ => K.length - (intOf i).toNat)
  case atStart => exact ⟨0, Nat.zero_le _, rfl, Below.refl _ _⟩
  case round =>
    obtain ⟨k, hk, rfl, hb⟩ := hrel
    by_cases hlt : k < K.length
    · obtain ⟨p, hp⟩ := get_of_lt hlt
      obtain rfl := ha (ne_nil hlt)
      obtain ⟨u1, c0, c1, hi1⟩ := outC_keeps _ _ _ _ _ hb (HC.out.1 k p hp)
      have hpl := HC.out.2.1 p (List.mem_of_getElem? hp)
      have hcn : (1 : Int) ≤ (p.2 : Int) := by have := HC.out.2.2.1 p (List.mem_of_getElem? hp); omega
      obtain ⟨a1, p1, e1⟩ := hi1.form
      subst e1
      have hkI : (k : Int) < (K.length : Int) := by omega
      cases k with
      | zero =>
        clear hi1 hp hpl
        generalize p.1.length = ln at *
        generalize p.2 = cn at *
        go_wp2_with fail
        go_roundw
        case measure => simp [intOf]; omega
        case rel => exact ⟨1, by omega, by go_num, hb⟩
      | succ j =>
        obtain ⟨q, hq⟩ := get_of_lt (show j < K.length by omega)
        obtain ⟨u2, d0, d1, hi2⟩ := outC_keeps _ _ _ _ _ hb (HC.out.1 j q hq)
        have hql := HC.out.2.1 q (List.mem_of_getElem? hq)
        have hlx := HC.out.2.2.2 j q p hq hp
        obtain ⟨a2, p2, e2⟩ := hi2.form
        subst e2
        have HS : Hid (∀ w', Below wr.heap.size wr w' → Calls Try.prog 49 #[.slice a2 q.1.length p2, .slice a1 p.1.length p1] w' fun e w'' => e = .returned (.bool true) ∧ Below w'.heap.size w' w'') := fun w' hb' => less_any q.1 p.1 (by omega) (by omega) hlx _ _ w' (hi2.keep hb') (hi1.keep hb')
        have hj0 : (0 : Int) < ((j + 1 : Nat) : Int) := by omega
        have hj1 : ((j + 1 : Nat) : Int) - 1 = (j : Int) := by omega
        have hjI : (j : Int) < (K.length : Int) := by omega
        generalize p.1.length = ln at *
        generalize q.1.length = lm at *
        generalize p.2 = cn at *
        clear hi1 hi2 hp hq hpl hql hlx d1
        go_wp2_with fail
        have g0 := grown_cell c0
        have g1 := grown_cell d0
        have hnw := grw_some wr
        refine wp_region_grown (by kernel_rfl) (by kernel_rfl) ?_
        repeat (go_big_quiet_step ((go_at_call 49; exact grown_call (HS.out _ (Grw.low _)))))
        refine wpQuiet_nil ?_
        intro w7 hw7
        obtain ⟨⟨w7', hb7⟩, rfl⟩ := hw7
        have hb8 := below_more hb hb7
        clear g0 g1 HS c0 c1 d0 hb hb7 hnw
        go_wp2_with fail
        go_roundw
        case measure => simp [intOf]; omega
        case rel => exact ⟨j + 1 + 1, by omega, by go_num, hb8⟩
    · have hkI : (K.length : Int) ≤ (k : Int) := by omega
      go_wp2_with fail
      go_ret
      exact ⟨rfl, hb⟩

end Go.Proofs.Ytomijmikkbhgmab
