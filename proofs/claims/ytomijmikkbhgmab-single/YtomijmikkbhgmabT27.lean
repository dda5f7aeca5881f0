import Derived.Test.YtomijmikkbhgmabT26
import Derived.Test.YtomijmikkbhgmabT25
import Derived.Test.YtomijmikkbhgmabT5
import Derived.Test.YtomijmikkbhgmabT8
import Derived.Test.YtomijmikkbhgmabLu
import Derived.Test.YtomijmikkbhgmabT4
namespace Go.Proofs.Ytomijmikkbhgmab

/-! each execution is a candidate -/
theorem picks_of_zip (E R : List Evt) (i : Nat) (F : List Int) (hl : F.length = (rdsX R i).length) (h : ∀ q ∈ (rdsX R i).zip F, q.2 = -1 ∨ q.2 ∈ wrs E 0 q.1.2.loc) : picks F (rdo E R) := by
  induction R generalizing i F with
  | nil =>
    have : F = [] := List.eq_nil_of_length_eq_zero (by simpa [rdsX] using hl)
    subst this
    exact True.intro
  | cons y R ih =>
    unfold rdo
    cases hk : y.kind == 0
    · rw [rdsX_mis hk] at hl h
      exact ih (i + 1) F hl h
    · rw [rdsX_hit hk] at hl h
      cases F with
      | nil => simp at hl
      | cons a F =>
        rw [List.zip_cons_cons] at h
        refine ⟨?_, ih (i + 1) F (by simpa using hl) (fun q hq => h q (List.mem_cons_of_mem _ hq))⟩
        rcases h ((i, y), a) (List.mem_cons_self ..) with e | e
        · exact List.mem_cons.2 (.inl e)
        · exact List.mem_cons_of_mem _ e

theorem picks_mem {F : List Int} {os : List (List Int)} (h : picks F os) : F ∈ allF os := by
  induction os generalizing F with
  | nil => cases F with
    | nil => exact List.mem_singleton.2 rfl
    | cons a F => exact absurd h (by simp [picks])
  | cons o os ih =>
    cases F with
    | nil => exact absurd h (by simp [picks])
    | cons a F =>
      have h' : a ∈ o ∧ picks F os := h
      exact List.mem_flatMap.2 ⟨a, h'.1, List.mem_map.2 ⟨F, ih h'.2, rfl⟩⟩

theorem perm_ordN (m : Nat) (l p : List Int) (hl : l.length = m) (hp : p.Perm l) : p ∈ ordN m l := by
  induction m generalizing l p with
  | zero =>
    have : l = [] := List.eq_nil_of_length_eq_zero hl
    subst this
    have : p = [] := List.Perm.eq_nil hp
    subst this
    exact List.mem_singleton.2 rfl
  | succ m ih =>
    cases p with
    | nil => have := hp.length_eq; rw [hl] at this; simp at this
    | cons a p =>
      have ha : a ∈ l := hp.mem_iff.1 (List.mem_cons_self ..)
      obtain ⟨i, hi⟩ := List.mem_iff_getElem?.1 ha
      have hil : i < l.length := (List.getElem?_eq_some_iff.1 hi).1
      have hia : l[i] = a := (List.getElem?_eq_some_iff.1 hi).2
      have e : l = l.take i ++ a :: l.drop (i + 1) := by rw [← hia, ← List.drop_eq_getElem_cons hil, List.take_append_drop]
      have hp2 : p.Perm (l.eraseIdx i) := by
        rw [List.eraseIdx_eq_take_drop_succ]
        have h1 : (a :: p).Perm (l.take i ++ a :: l.drop (i + 1)) := by rw [← e]; exact hp
        exact (List.perm_cons a).1 (h1.trans List.perm_middle)
      unfold ordN
      refine List.mem_flatMap.2 ⟨i, List.mem_range.2 hil, List.mem_map.2 ⟨p, ih _ p (by rw [List.length_eraseIdx, if_pos hil]; omega) hp2, ?_⟩⟩
      rw [List.getD, hi]; rfl

theorem IsEx.mem {E : List Evt} {x : Exe} (h : IsEx E x) : ∃ n, n < sizeN E ∧ exN E n = x := by
  have hF := picks_mem (picks_of_zip E E 0 x.from' h.f h.fw)
  obtain ⟨a, b, c, ho⟩ : ∃ a b c, x.order = [a, b, c] := by
    have h3 := h.o3
    match hx : x.order, h3 with
    | [a, b, c], _ => exact ⟨a, b, c, rfl⟩
  have hperm : ∀ (j : Nat) (l : List Int), x.order[j]? = some l → l ∈ ords E (j : Int) := fun j l hl => by
    obtain ⟨h1, h2⟩ := h.od j l hl
    exact perm_ordN _ _ _ rfl ((List.perm_ext_iff_of_nodup h1 (wrs_nodup E _)).2 h2)
  have ha := hperm 0 a (by rw [ho]; rfl)
  have hb := hperm 1 b (by rw [ho]; rfl)
  have hc := hperm 2 c (by rw [ho]; rfl)
  have hx : x ∈ exs E := by
    unfold exs
    refine List.mem_flatMap.2 ⟨x.from', hF, List.mem_flatMap.2 ⟨a, ha, List.mem_flatMap.2 ⟨b, hb, List.mem_map.2 ⟨c, hc, ?_⟩⟩⟩⟩
    cases x
    simp only at ho
    rw [ho]
  obtain ⟨n, hn⟩ := List.mem_iff_getElem?.1 hx
  have hlt : n < sizeN E := by have := (List.getElem?_eq_some_iff.1 hn).1; rw [exs_len] at this; exact this
  rw [exs_at E n hlt] at hn
  exact ⟨n, hlt, Option.some.inj hn⟩

/-! arrows that lead on -/
theorem fwd_acyclic {n : Nat} {A : List (Int × Int)} (h : ∀ p ∈ A, p.1 < p.2) : ¬ Cyc n A := by
  rintro ⟨S, ⟨b, hb, hS⟩, hc⟩
  have key : ∀ (k b : Nat), b ≤ k → b < n → S b → False := by
    intro k
    induction k with
    | zero =>
      intro b h1 h2 h3
      obtain ⟨a, _, _, hA⟩ := hc b h2 h3
      have := h _ hA
      simp only at this
      omega
    | succ k ih =>
      intro b h1 h2 h3
      obtain ⟨a, ha, hSa, hA⟩ := hc b h2 h3
      have := h _ hA
      simp only at this
      exact ih a (by omega) ha hSa
  exact key b b (Nat.le_refl _) hb hS

theorem fwd_parts {n : Nat} {ms : List Mt} {A : List (Int × Int)} (hA : ∀ p ∈ A, p.1 < p.2) (hm : ∀ m ∈ ms, m.e < m.f ∨ m.s < m.b) : Parts n ms A := by
  induction ms generalizing A with
  | nil => exact fwd_acyclic hA
  | cons m ms ih =>
    have more : ∀ p : Int × Int, p.1 < p.2 → ∀ q ∈ A ++ [p], q.1 < q.2 := fun p hp q hq => by
      rcases List.mem_append.1 hq with h | h
      · exact hA q h
      · have : q = p := by simpa using h
        rw [this]; exact hp
    refine ⟨fwd_acyclic hA, ?_⟩
    rcases hm m (List.mem_cons_self ..) with h | h
    · exact .inl (ih (more (pick false m) h) (fun m' hm' => hm m' (List.mem_cons_of_mem _ hm')))
    · exact .inr (ih (more (pick true m) h) (fun m' hm' => hm m' (List.mem_cons_of_mem _ hm')))

theorem rdsX_mem {E : List Evt} {i r : Nat} {y : Evt} (h : (r, y) ∈ rdsX E i) : i ≤ r ∧ E[r - i]? = some y ∧ y.kind = 0 := by
  induction E generalizing i with
  | nil => simp [rdsX] at h
  | cons x E ih =>
    have key : (r, y) ∈ rdsX E (i + 1) → i ≤ r ∧ (x :: E)[r - i]? = some y ∧ y.kind = 0 := fun h => by
      obtain ⟨h1, h2, h3⟩ := ih h
      exact ⟨by omega, by rw [show r - i = (r - (i + 1)) + 1 by omega]; simpa using h2, h3⟩
    cases hk : x.kind == 0
    · rw [rdsX_mis hk] at h; exact key h
    · rw [rdsX_hit hk] at h
      rcases List.mem_cons.1 h with e | h
      · cases e
        exact ⟨Nat.le_refl _, by simp, by simpa using hk⟩
      · exact key h

/-- The last Write of a location ahead of an event. -/
def lastW (E : List Evt) (loc : Int) (r : Nat) : Int := ((wrs (E.take r) 0 loc).getLast?).getD (-1)
theorem lastW_spec (E : List Evt) (loc : Int) (r : Nat) : (lastW E loc r = -1 ∧ ∀ b ∈ wrs E 0 loc, (r : Int) ≤ b) ∨ (lastW E loc r ∈ wrs E 0 loc ∧ lastW E loc r < (r : Int) ∧ lastW E loc r ≠ -1 ∧ ∀ b ∈ wrs E 0 loc, b ≤ lastW E loc r ∨ (r : Int) ≤ b) := by
  have htk : ∀ {a : Int}, a ∈ wrs (E.take r) 0 loc ↔ a ∈ wrs E 0 loc ∧ a < (r : Int) := by
    intro a
    rw [wrs_iff, wrs_iff]
    constructor
    · rintro ⟨i, y, h1, h2, h3⟩
      have hi : i < r := by have := (List.getElem?_eq_some_iff.1 h1).1; rw [List.length_take] at this; omega
      rw [List.getElem?_take_of_lt hi] at h1
      exact ⟨⟨i, y, h1, h2, h3⟩, by omega⟩
    · rintro ⟨⟨i, y, h1, h2, h3⟩, h4⟩
      exact ⟨i, y, by rw [List.getElem?_take_of_lt (by omega)]; exact h1, h2, h3⟩
  unfold lastW
  cases hl : (wrs (E.take r) 0 loc).getLast? with
  | none =>
    have hn : wrs (E.take r) 0 loc = [] := List.getLast?_eq_none_iff.1 hl
    refine .inl ⟨rfl, fun b hb => Int.not_lt.1 fun hlt => ?_⟩
    have := htk.2 ⟨hb, hlt⟩
    rw [hn] at this
    cases this
  | some a =>
    have ham : a ∈ wrs (E.take r) 0 loc := List.mem_of_getLast? hl
    obtain ⟨h1, h2⟩ := htk.1 ham
    refine .inr ⟨h1, h2, ?_, fun b hb => ?_⟩
    · obtain ⟨i, y, _, e, _⟩ := wrs_iff.1 h1
      show a ≠ -1
      omega
    · by_cases hbr : (r : Int) ≤ b
      · exact .inr hbr
      · refine .inl ?_
        have hbm := htk.2 ⟨hb, by omega⟩
        obtain ⟨l', hl'⟩ := List.getLast?_eq_some_iff.1 hl
        rw [hl'] at hbm
        have hs := wrs_sorted (E.take r) 0 loc
        rw [hl', List.pairwise_append] at hs
        rcases List.mem_append.1 hbm with h | h
        · have := hs.2.2 b h a (List.mem_singleton.2 rfl)
          show b ≤ a
          omega
        · have : b = a := by simpa using h
          show b ≤ a
          omega

theorem restG_gt {l : List Int} (hs : l.Pairwise (· < ·)) {f b : Int} (h : b ∈ restG l f) : f < b := by
  induction l with
  | nil => simp [restG] at h
  | cons x l ih =>
    rw [List.pairwise_cons] at hs
    unfold restG at h
    split at h
    · rename_i hx
      have : x = f := by simpa using hx
      rw [← this]; exact hs.1 b h
    · exact ih hs.2 h
theorem restG_in {l : List Int} (hs : l.Pairwise (· < ·)) {f b : Int} (hf : f ∈ l) (hb : b ∈ l) (hlt : f < b) : b ∈ restG l f := by
  induction l with
  | nil => cases hf
  | cons x l ih =>
    rw [List.pairwise_cons] at hs
    unfold restG
    split
    · rename_i hx
      have : x = f := by simpa using hx
      rcases List.mem_cons.1 hb with e | e
      · omega
      · exact e
    · rename_i hx
      have hxf : x ≠ f := by simpa using hx
      have hf' : f ∈ l := by rcases List.mem_cons.1 hf with e | e; exact absurd e.symm hxf; exact e
      have hb' : b ∈ l := by
        rcases List.mem_cons.1 hb with e | e
        · have := hs.1 f hf'; omega
        · exact e
      exact ih hs.2 hf' hb'
theorem restG_sorted {l : List Int} (hs : l.Pairwise (· < ·)) (f : Int) : (restG l f).Pairwise (· < ·) := by
  induction l with
  | nil => simp [restG]
  | cons x l ih =>
    rw [List.pairwise_cons] at hs
    unfold restG
    split
    · exact hs.2
    · exact ih hs.2
theorem tailsL_lt {l : List Int} (hs : l.Pairwise (· < ·)) {p : Int × Int} (h : p ∈ tailsL l) : p.1 < p.2 := by
  induction l with
  | nil => simp [tailsL] at h
  | cons a l ih =>
    rw [List.pairwise_cons] at hs
    unfold tailsL at h
    rcases List.mem_append.1 h with h | h
    · obtain ⟨h1, h2⟩ := fanL_mem.1 h
      rw [h1]; exact hs.1 _ h2
    · exact ih hs.2 h

/-- The threads run one after the other. -/
def seqX (E : List Evt) : Exe := ⟨(rdsX E 0).map fun p => lastW E p.2.loc p.1, [wrs E 0 0, wrs E 0 1, wrs E 0 2]⟩
theorem zip_self {α β : Type} (l : List α) (g : α → β) : l.zip (l.map g) = l.map fun p => (p, g p) := by
  induction l with
  | nil => rfl
  | cons a l ih => rw [List.map_cons, List.zip_cons_cons, ih]; rfl
theorem seqX_ord (E : List Evt) {loc : Int} (h : locB loc = true) : ordAt (seqX E) loc = wrs E 0 loc := by
  unfold locB at h
  simp only [Bool.and_eq_true, decide_eq_true_eq] at h
  have : loc = 0 ∨ loc = 1 ∨ loc = 2 := by omega
  rcases this with rfl | rfl | rfl <;> rfl

theorem seqX_isEx (E : List Evt) : IsEx E (seqX E) := by
  refine ⟨by simp [seqX], fun q hq => ?_, rfl, fun j l hl => ?_⟩
  · unfold seqX at hq
    simp only at hq
    rw [zip_self] at hq
    obtain ⟨⟨r, y⟩, hp, rfl⟩ := List.mem_map.1 hq
    rcases lastW_spec E y.loc r with ⟨h, _⟩ | ⟨h, _⟩
    · exact .inl h
    · exact .inr h
  · match j, hl with
    | 0, hl => simp [seqX] at hl; subst hl; exact ⟨wrs_nodup _ _, fun _ => Iff.rfl⟩
    | 1, hl => simp [seqX] at hl; subst hl; exact ⟨wrs_nodup _ _, fun _ => Iff.rfl⟩
    | 2, hl => simp [seqX] at hl; subst hl; exact ⟨wrs_nodup _ _, fun _ => Iff.rfl⟩
    | j + 3, hl => simp [seqX] at hl

/-- What stands behind what a Read reads from comes behind it. -/
theorem seqX_rest {E : List Evt} {r : Nat} {y : Evt} (hy : E[r]? = some y) (hk : y.kind = 0) {b : Int} (h : b ∈ restL (wrs E 0 y.loc) (lastW E y.loc r)) : (r : Int) < b := by
  have hb : b ∈ wrs E 0 y.loc := restL_mem h
  have hne : b ≠ (r : Int) := fun e => by
    obtain ⟨i, z, h1, h2, h3, _⟩ := wrs_iff.1 hb
    have hir : i = r := by omega
    subst hir
    rw [hy] at h1
    cases h1
    omega
  rcases lastW_spec E y.loc r with ⟨_, h2⟩ | ⟨_, _, h3, h4⟩
  · have := h2 b hb; omega
  · unfold restL at h
    rw [if_neg (by simpa using h3)] at h
    have := restG_gt (wrs_sorted E 0 y.loc) h
    rcases h4 b hb with h5 | h5
    · omega
    · omega

theorem seqX_arw {E : List Evt} (hloc : ∀ y ∈ E, locB y.loc = true) : ∀ p ∈ arwL E (seqX E), p.1 < p.2 := by
  intro p hp
  unfold arwL at hp
  rcases List.mem_append.1 hp with hp | hp
  · obtain ⟨q, hq, hp⟩ := List.mem_flatMap.1 hp
    unfold seqX at hq
    simp only at hq
    rw [zip_self] at hq
    obtain ⟨⟨r, y⟩, hp0, rfl⟩ := List.mem_map.1 hq
    obtain ⟨_, hy, hk⟩ := rdsX_mem hp0
    rw [Nat.sub_zero] at hy
    unfold arw1 at hp
    simp only at hp
    rcases List.mem_append.1 hp with hp | hp
    · split at hp
      · cases hp
      · have : p = (lastW E y.loc r, (r : Int)) := by simpa using hp
        rw [this]
        rename_i hne
        rcases lastW_spec E y.loc r with ⟨h, _⟩ | ⟨_, h, _⟩
        · rw [h] at hne; simp at hne
        · exact h
    · obtain ⟨h1, h2⟩ := fanL_mem.1 hp
      rw [seqX_ord E (hloc y (List.mem_of_getElem? hy))] at h2
      rw [h1]
      exact seqX_rest hy hk h2
  · obtain ⟨l, hl, hp⟩ := List.mem_flatMap.1 hp
    have hl3 : l = wrs E 0 0 ∨ l = wrs E 0 1 ∨ l = wrs E 0 2 := by simpa [seqX] using hl
    rcases hl3 with rfl | rfl | rfl <;> exact tailsL_lt (wrs_sorted E 0 _) hp

theorem allD_lt {f : Nat → Nat → Bool} {n k : Nat} : ∀ p ∈ allD f n k, p.1 < p.2 := by
  intro p hp
  unfold allD at hp
  obtain ⟨i, _, hp⟩ := List.mem_flatMap.1 hp
  unfold dnT at hp
  obtain ⟨j, hj, rfl⟩ := List.mem_map.1 hp
  have := (List.mem_filter.1 hj).2
  simp only [Bool.and_eq_true, decide_eq_true_eq] at this
  show (i : Int) < (j : Int)
  omega

theorem seqX_torn {T : List (List Ins)} {E : List Evt} (hE : E = evsT T 0) (hloc : ∀ y ∈ E, locB y.loc = true) : tornB E (seqX E) = false := by
  cases ht : tornB E (seqX E)
  · rfl
  · exfalso
    unfold tornB at ht
    obtain ⟨q, hq, ht⟩ := List.any_eq_true.1 ht
    unfold seqX at hq
    simp only at hq
    rw [zip_self] at hq
    obtain ⟨⟨r, y⟩, hp0, rfl⟩ := List.mem_map.1 hq
    obtain ⟨_, hy, hk⟩ := rdsX_mem hp0
    rw [Nat.sub_zero] at hy
    unfold torn1 at ht
    simp only [Bool.and_eq_true, beq_iff_eq] at ht
    obtain ⟨hop, hhd⟩ := ht
    have hsw : SwOk E := by rw [hE]; exact swOk_T T 0
    obtain ⟨z, hz, hzk, hzl⟩ : ∃ z, E[r + 1]? = some z ∧ z.kind = 1 ∧ z.loc = y.loc := ⟨_, hsw.s1 r y hy hk hop, rfl, rfl⟩
    rw [seqX_ord E (hloc y (List.mem_of_getElem? hy))] at hhd
    have hmem : ((r + 1 : Nat) : Int) ∈ restL (wrs E 0 y.loc) (lastW E y.loc r) := by
      have hw : ((r + 1 : Nat) : Int) ∈ wrs E 0 y.loc := wrs_iff.2 ⟨r + 1, z, hz, rfl, hzk, hzl⟩
      unfold restL
      rcases lastW_spec E y.loc r with ⟨h, _⟩ | ⟨h1, h2, h3, _⟩
      · rw [h]; simpa using hw
      · rw [if_neg (by simpa using h3)]
        exact restG_in (wrs_sorted E 0 y.loc) h1 hw (by omega)
    have hall : ∀ b ∈ restL (wrs E 0 y.loc) (lastW E y.loc r), (r : Int) < b := fun b hb => seqX_rest hy hk hb
    have hsrt : (restL (wrs E 0 y.loc) (lastW E y.loc r)).Pairwise (· < ·) := by
      unfold restL
      split
      · exact wrs_sorted E 0 _
      · exact restG_sorted (wrs_sorted E 0 _) _
    generalize restL (wrs E 0 y.loc) (lastW E y.loc r) = L at *
    cases L with
    | nil => cases hmem
    | cons a L =>
      rw [List.pairwise_cons] at hsrt
      have h1 := hall a (List.mem_cons_self ..)
      have h2 : a = (r : Int) + 1 := by
        rcases List.mem_cons.1 hmem with e | e
        · omega
        · have := hsrt.1 _ e
          omega
      simp [headNe, h2] at hhd

/-! sections -/
def acc : Bool → List Evt → Option Bool
  | st, [] => some st
  | st, y :: E => if y.kind == 2 then (if st then none else acc true E) else if y.kind == 3 then (if st then acc false E else none) else if y.kind == 4 || y.kind == 5 then (if st then none else acc st E) else acc st E

theorem acc_append (st : Bool) (A B : List Evt) : acc st (A ++ B) = (acc st A).bind fun s => acc s B := by
  induction A generalizing st with
  | nil => rfl
  | cons y A ih =>
    rw [List.cons_append, acc, acc]
    cases y.kind == 2 <;> cases y.kind == 3 <;> cases (y.kind == 4 || y.kind == 5) <;> cases st <;> simp [ih]

theorem thoL_ge {kd : Int} {E : List Evt} {i : Nat} {a : Int} (h : a ∈ thoL kd E i) : (i : Int) ≤ a := by
  obtain ⟨k, _, _, _, e⟩ := thoL_mem h
  omega

/-- A section and a Sync: one is over ahead of the other one. -/
def Apt (bs es ss : List Int) : Prop := ∀ p ∈ bs.zip es, ∀ s ∈ ss, p.2 < s ∨ s < p.1

theorem acc_apart (E : List Evt) : (∀ i, acc false E = some false → Apt (thoL 2 E i) (thoL 3 E i) (thoL 4 E i)) ∧ (∀ i, acc true E = some false → ∃ e0 rest, thoL 3 E i = e0 :: rest ∧ (∀ s ∈ thoL 4 E i, e0 < s) ∧ Apt (thoL 2 E i) rest (thoL 4 E i)) := by
  induction E with
  | nil => exact ⟨fun i _ p hp => by simp [thoL] at hp, fun i h => by simp [acc] at h⟩
  | cons y E ih =>
    obtain ⟨ih1, ih2⟩ := ih
    have other : ∀ {st : Bool}, acc st (y :: E) = some false → (y.kind == 2) = false → (y.kind == 3) = false → (y.kind == 4) = false → acc st E = some false := by
      intro st h k2 k3 k4
      rw [acc, k2, k3, k4] at h
      cases k5 : y.kind == 5
      · rw [k5] at h; simpa using h
      · rw [k5] at h
        cases st
        · simpa using h
        · simp at h
    constructor
    · intro i h
      cases k2 : y.kind == 2
      · cases k3 : y.kind == 3
        · cases k4 : y.kind == 4
          · have := ih1 (i + 1) (other h k2 k3 k4)
            rw [thoL_mis k2, thoL_mis k3, thoL_mis k4]
            exact this
          · rw [thoL_mis k2, thoL_mis k3, thoL_hit k4]
            rw [acc, k2, k3, k4] at h
            have h' : acc false E = some false := by simpa using h
            intro p hp s hs
            rcases List.mem_cons.1 hs with rfl | hs
            · have := thoL_ge (List.of_mem_zip hp).1
              exact .inr (by omega)
            · exact ih1 (i + 1) h' p hp s hs
        · rw [acc, k2, k3] at h; simp at h
      · have hk : y.kind = 2 := by simpa using k2
        have k3 : (y.kind == 3) = false := by rw [hk]; rfl
        have k4 : (y.kind == 4) = false := by rw [hk]; rfl
        rw [acc, k2] at h
        have h' : acc true E = some false := by simpa using h
        obtain ⟨e0, rest, h1, h2, h3⟩ := ih2 (i + 1) h'
        rw [thoL_hit k2, thoL_mis k3, thoL_mis k4, h1]
        intro p hp s hs
        rw [List.zip_cons_cons] at hp
        rcases List.mem_cons.1 hp with rfl | hp
        · exact .inl (h2 s hs)
        · exact h3 p hp s hs
    · intro i h
      cases k2 : y.kind == 2
      · cases k3 : y.kind == 3
        · cases k4 : y.kind == 4
          · obtain ⟨e0, rest, h1, h2, h3⟩ := ih2 (i + 1) (other h k2 k3 k4)
            rw [thoL_mis k2, thoL_mis k3, thoL_mis k4]
            exact ⟨e0, rest, h1, h2, h3⟩
          · rw [acc, k2, k3, k4] at h; simp at h
        · have hk : y.kind = 3 := by simpa using k3
          have k4 : (y.kind == 4) = false := by rw [hk]; rfl
          rw [acc, k2, k3] at h
          have h' : acc false E = some false := by simpa using h
          rw [thoL_mis k2, thoL_hit k3, thoL_mis k4]
          exact ⟨_, _, rfl, fun s hs => by have := thoL_ge hs; omega, ih1 (i + 1) h'⟩
      · rw [acc, k2] at h; simp at h

theorem acc_none {ks : List Int} {i j : Nat} {x : Ins} {st : Bool} (h : ∀ k ∈ ks, k = 0 ∨ k = 1) : acc st (evsK i j x ks) = some st := by
  induction ks with
  | nil => rfl
  | cons k ks ih =>
    have hk := h k (List.mem_cons_self ..)
    show acc st (⟨i, j, k, x.loc, x⟩ :: evsK i j x ks) = some st
    rw [acc]
    rcases hk with rfl | rfl <;> exact ih (fun q hq => h q (List.mem_cons_of_mem _ hq))

theorem acc_I {i : Nat} {l : List Ins} {j : Nat} {st : Bool} (h : nst l j st < 0) : acc st (evsI i l j) = some false := by
  induction l generalizing j st with
  | nil =>
    cases st
    · rfl
    · rw [nst] at h; simp at h; omega
  | cons x l ih =>
    rw [evsI, acc_append]
    rw [nst] at h
    cases h5 : x.op == 5
    · cases h6 : x.op == 6
      · cases h7 : x.op == 7
        · rw [h5, h6, h7] at h
          simp only [Bool.false_eq_true, if_false] at h
          have hk : acc st (evsK i j x (kindsOf x.op)) = some st := by
            refine acc_none (fun k hk => ?_)
            unfold kindsOf at hk
            rw [h5, h6, h7] at hk
            simp only [Bool.false_eq_true, if_false] at hk
            split at hk
            · exact .inr (by simpa using hk)
            · split at hk
              · exact .inl (by simpa using hk)
              · split at hk
                · simpa using hk
                · cases hk
          rw [hk]
          exact ih h
        · rw [h5, h6, h7] at h
          have ho : x.op = 7 := by simpa using h7
          cases st
          · simp only [Bool.false_eq_true, if_false, if_true] at h
            have hk : acc false (evsK i j x (kindsOf x.op)) = some false := by rw [ho]; rfl
            rw [hk]
            exact ih h
          · simp at h; omega
      · rw [h5, h6] at h
        have ho : x.op = 6 := by simpa using h6
        cases st
        · simp at h; omega
        · simp only [Bool.false_eq_true, if_false, if_true] at h
          have hk : acc true (evsK i j x (kindsOf x.op)) = some false := by rw [ho]; rfl
          rw [hk]
          exact ih h
    · rw [h5] at h
      have ho : x.op = 5 := by simpa using h5
      cases st
      · simp only [Bool.false_eq_true, if_false, if_true] at h
        have hk : acc false (evsK i j x (kindsOf x.op)) = some true := by rw [ho]; rfl
        rw [hk]
        exact ih h
      · simp at h; omega

theorem acc_T {T : List (List Ins)} {i k : Nat} (h : nstF T i = none) : acc false (evsT T k) = some false := by
  induction T generalizing i k with
  | nil => rfl
  | cons l T ih =>
    rw [nstF] at h
    split at h
    · cases h
    · rename_i hn
      rw [evsT, acc_append, acc_I (by omega)]
      exact ih h

/-- There is always an allowed candidate. -/
theorem seqX_alw {T : List (List Ins)} {c : List Atm} (hz : ((chk T c).1 == 0) = true) : Alw T (evsT T 0) (seqX (evsT T 0)) := by
  have hloc := evsT_locs (i := 0) (chk_locs hz)
  have hA := seqX_arw hloc
  have hcoh : ∀ p ∈ cohA (evsT T 0) (seqX (evsT T 0)), p.1 < p.2 := fun p hp => by
    unfold cohA at hp
    rcases List.mem_append.1 hp with h | h
    · exact hA p h
    · exact allD_lt p h
  have hkep : ∀ p ∈ kepA T (evsT T 0) (seqX (evsT T 0)), p.1 < p.2 := fun p hp => by
    unfold kepA at hp
    rcases List.mem_append.1 hp with h | h
    · exact hA p h
    · exact allD_lt p h
  have hapt := (acc_apart (evsT T 0)).1 0 (acc_T (chk_nested hz).1)
  refine .inr ⟨fwd_acyclic hcoh, .inr ⟨seqX_torn rfl hloc, .inr ⟨fwd_acyclic hkep, .inr ⟨fun h => h (fwd_parts hkep (fun m hm => ?_)), rfl⟩⟩⟩⟩
  unfold mtL at hm
  obtain ⟨p, hp, hm⟩ := List.mem_flatMap.1 hm
  obtain ⟨s, hs, rfl⟩ := List.mem_map.1 hm
  rcases hapt p hp s hs with h | h
  · exact .inl (by show p.2 < s + 1; omega)
  · exact .inr h

theorem some_allowed {T : List (List Ins)} {c : List Atm} (hz : ((chk T c).1 == 0) = true) : ∃ n, n < sizeN (evsT T 0) ∧ Alw T (evsT T 0) (exN (evsT T 0) n) := by
  obtain ⟨n, hn, he⟩ := (seqX_isEx (evsT T 0)).mem
  exact ⟨n, hn, by rw [he]; exact seqX_alw hz⟩

end Go.Proofs.Ytomijmikkbhgmab

namespace Go.Proofs.Ytomijmikkbhgmab

theorem along_acyclic {n : Nat} {A : List (Int × Int)} (κ : Int → Nat) (h : ∀ p ∈ A, κ p.1 < κ p.2) : ¬ Cyc n A := by
  rintro ⟨S, ⟨b, hb, hS⟩, hC⟩
  have key : ∀ k (b : Nat), κ (b : Int) ≤ k → b < n → S b → False := by
    intro k
    induction k with
    | zero =>
      intro b hk hb hS
      obtain ⟨a, _, _, h3⟩ := hC b hb hS
      have := h _ h3
      simp only at this
      omega
    | succ k ih =>
      intro b hk hb hS
      obtain ⟨a, h1, h2, h3⟩ := hC b hb hS
      have := h _ h3
      simp only at this
      exact ih a (by omega) h1 h2
  exact key _ b (Nat.le_refl _) hb hS

theorem along_parts {n : Nat} {ms : List Mt} {A : List (Int × Int)} (κ : Int → Nat) (hA : ∀ p ∈ A, κ p.1 < κ p.2) (hm : ∀ m ∈ ms, κ m.e < κ m.f ∨ κ m.s < κ m.b) : Parts n ms A := by
  induction ms generalizing A with
  | nil => exact along_acyclic κ hA
  | cons m ms ih =>
    have more : ∀ p : Int × Int, κ p.1 < κ p.2 → ∀ q ∈ A ++ [p], κ q.1 < κ q.2 := fun p hp q hq => by
      rcases List.mem_append.1 hq with h | h
      · exact hA q h
      · have : q = p := by simpa using h
        rw [this]; exact hp
    refine ⟨along_acyclic κ hA, ?_⟩
    rcases hm m (List.mem_cons_self ..) with h | h
    · exact .inl (ih (more (pick false m) h) (fun m' hm' => hm m' (List.mem_cons_of_mem _ hm')))
    · exact .inr (ih (more (pick true m) h) (fun m' hm' => hm m' (List.mem_cons_of_mem _ hm')))

/-! lists that rise by a key -/
theorem restK_gt {κ : Int → Nat} {l : List Int} (hs : l.Pairwise fun a b => κ a < κ b) {f b : Int} (h : b ∈ restG l f) : κ f < κ b := by
  induction l with
  | nil => simp [restG] at h
  | cons x l ih =>
    rw [List.pairwise_cons] at hs
    unfold restG at h
    split at h
    · rename_i hx
      have : x = f := by simpa using hx
      rw [← this]; exact hs.1 b h
    · exact ih hs.2 h
theorem restK_in {κ : Int → Nat} {l : List Int} (hs : l.Pairwise fun a b => κ a < κ b) {f b : Int} (hf : f ∈ l) (hb : b ∈ l) (hlt : κ f < κ b) : b ∈ restG l f := by
  induction l with
  | nil => cases hf
  | cons x l ih =>
    rw [List.pairwise_cons] at hs
    unfold restG
    split
    · rename_i hx
      have : x = f := by simpa using hx
      rcases List.mem_cons.1 hb with e | e
      · rw [e, this] at hlt; omega
      · exact e
    · rename_i hx
      have hxf : x ≠ f := by simpa using hx
      have hf' : f ∈ l := by rcases List.mem_cons.1 hf with e | e; exact absurd e.symm hxf; exact e
      have hb' : b ∈ l := by
        rcases List.mem_cons.1 hb with e | e
        · have := hs.1 f hf'; rw [e] at hlt; omega
        · exact e
      exact ih hs.2 hf' hb'
theorem restK_sorted {κ : Int → Nat} {l : List Int} (hs : l.Pairwise fun a b => κ a < κ b) (f : Int) : (restG l f).Pairwise fun a b => κ a < κ b := by
  induction l with
  | nil => simp [restG]
  | cons x l ih =>
    rw [List.pairwise_cons] at hs
    unfold restG
    split
    · exact hs.2
    · exact ih hs.2
theorem tailsK_lt {κ : Int → Nat} {l : List Int} (hs : l.Pairwise fun a b => κ a < κ b) {p : Int × Int} (h : p ∈ tailsL l) : κ p.1 < κ p.2 := by
  induction l with
  | nil => simp [tailsL] at h
  | cons a l ih =>
    rw [List.pairwise_cons] at hs
    unfold tailsL at h
    rcases List.mem_append.1 h with h | h
    · obtain ⟨h1, h2⟩ := fanL_mem.1 h
      rw [h1]; exact hs.1 _ h2
    · exact ih hs.2 h

/-- All events in a row; τ says where each one stands. -/
structure RowOk (E : List Evt) (R : List Nat) (τ : Nat → Nat) : Prop where
  pos : ∀ a, a < E.length → R[τ a]? = some a
  inv : ∀ i a, R[i]? = some a → a < E.length ∧ τ a = i

def keyT (τ : Nat → Nat) (a : Int) : Nat := τ a.toNat
theorem keyT_nat (τ : Nat → Nat) (a : Nat) : keyT τ (a : Int) = τ a := by unfold keyT; rw [Int.toNat_natCast]

def isWr (E : List Evt) (loc : Int) (e : Nat) : Bool := match E[e]? with
  | none => false
  | some y => y.kind == 1 && y.loc == loc
theorem isWr_iff {E : List Evt} {loc : Int} {e : Nat} : isWr E loc e = true ↔ ∃ y, E[e]? = some y ∧ y.kind = 1 ∧ y.loc = loc := by
  unfold isWr
  cases h : E[e]? with
  | none => simp
  | some y => simp

def ordR (E : List Evt) (R : List Nat) (loc : Int) : List Int := (R.filter (isWr E loc)).map fun e : Nat => (e : Int)
/-- The last Write of a location among the first t of the row. -/
def lastR (E : List Evt) (R : List Nat) (loc : Int) (t : Nat) : Int := match ((R.take t).filter (isWr E loc)).getLast? with
  | none => -1
  | some e => (e : Int)

theorem RowOk.mem {E : List Evt} {R : List Nat} {τ : Nat → Nat} (h : RowOk E R τ) {a : Nat} : a ∈ R ↔ a < E.length := by
  constructor
  · intro ha
    obtain ⟨i, hi⟩ := List.getElem?_of_mem ha
    exact (h.inv i a hi).1
  · intro ha
    exact List.mem_of_getElem? (h.pos a ha)
theorem RowOk.pw {E : List Evt} {R : List Nat} {τ : Nat → Nat} (h : RowOk E R τ) : R.Pairwise fun a b => τ a < τ b := by
  rw [List.pairwise_iff_getElem]
  intro i j hi hj hij
  have h1 := (h.inv i _ (List.getElem?_eq_getElem hi)).2
  have h2 := (h.inv j _ (List.getElem?_eq_getElem hj)).2
  omega
theorem RowOk.inj {E : List Evt} {R : List Nat} {τ : Nat → Nat} (h : RowOk E R τ) {a b : Nat} (ha : a < E.length) (hb : b < E.length) (e : τ a = τ b) : a = b := by
  have h1 := h.pos a ha
  have h2 := h.pos b hb
  rw [e, h2] at h1
  exact (Option.some.inj h1).symm

theorem ordR_mem {E : List Evt} {R : List Nat} {τ : Nat → Nat} (h : RowOk E R τ) {loc a : Int} : a ∈ ordR E R loc ↔ ∃ e y, a = ((e : Nat) : Int) ∧ E[e]? = some y ∧ y.kind = 1 ∧ y.loc = loc := by
  unfold ordR
  rw [List.mem_map]
  constructor
  · rintro ⟨e, he, rfl⟩
    obtain ⟨_, h2⟩ := List.mem_filter.1 he
    obtain ⟨y, h3⟩ := isWr_iff.1 h2
    exact ⟨e, y, rfl, h3⟩
  · rintro ⟨e, y, rfl, h1, h2⟩
    exact ⟨e, List.mem_filter.2 ⟨h.mem.2 (List.getElem?_eq_some_iff.1 h1).1, isWr_iff.2 ⟨y, h1, h2⟩⟩, rfl⟩
theorem ordR_wrs {E : List Evt} {R : List Nat} {τ : Nat → Nat} (h : RowOk E R τ) {loc a : Int} : a ∈ ordR E R loc ↔ a ∈ wrs E 0 loc := by
  rw [ordR_mem h, wrs_iff]
  constructor
  · rintro ⟨e, y, h1, h2, h3⟩; exact ⟨e, y, h2, h1, h3⟩
  · rintro ⟨e, y, h1, h2, h3⟩; exact ⟨e, y, h2, h1, h3⟩
theorem ordR_pw {E : List Evt} {R : List Nat} {τ : Nat → Nat} (h : RowOk E R τ) (loc : Int) : (ordR E R loc).Pairwise fun a b => keyT τ a < keyT τ b := by
  unfold ordR
  rw [List.pairwise_map]
  exact (h.pw.filter _).imp fun hab => by rw [keyT_nat, keyT_nat]; exact hab
theorem ordR_nodup {E : List Evt} {R : List Nat} {τ : Nat → Nat} (h : RowOk E R τ) (loc : Int) : (ordR E R loc).Nodup := (ordR_pw h loc).imp fun hab e => by rw [e] at hab; omega

theorem lastR_spec {E : List Evt} {R : List Nat} {τ : Nat → Nat} (h : RowOk E R τ) (loc : Int) (t : Nat) : (lastR E R loc t = -1 ∧ ∀ b ∈ ordR E R loc, t ≤ keyT τ b) ∨ (lastR E R loc t ∈ ordR E R loc ∧ keyT τ (lastR E R loc t) < t ∧ lastR E R loc t ≠ -1 ∧ ∀ b ∈ ordR E R loc, keyT τ b ≤ keyT τ (lastR E R loc t) ∨ t ≤ keyT τ b) := by
  have htk : ∀ e : Nat, e ∈ (R.take t).filter (isWr E loc) ↔ ((e : Nat) : Int) ∈ ordR E R loc ∧ τ e < t := fun e => by
    rw [List.mem_filter, ordR_mem h]
    constructor
    · rintro ⟨h1, h2⟩
      obtain ⟨i, hi⟩ := List.getElem?_of_mem h1
      have hit : i < t := by have := (List.getElem?_eq_some_iff.1 hi).1; rw [List.length_take] at this; omega
      rw [List.getElem?_take_of_lt hit] at hi
      obtain ⟨y, q⟩ := isWr_iff.1 h2
      exact ⟨⟨e, y, rfl, q⟩, by have := (h.inv i e hi).2; omega⟩
    · rintro ⟨⟨e', y, e1, q1, q2⟩, h2⟩
      have : e = e' := by omega
      subst this
      have hp := h.pos e (List.getElem?_eq_some_iff.1 q1).1
      refine ⟨List.mem_of_getElem? (i := τ e) (by rw [List.getElem?_take_of_lt h2]; exact hp), isWr_iff.2 ⟨y, q1, q2⟩⟩
  unfold lastR
  cases hl : ((R.take t).filter (isWr E loc)).getLast? with
  | none =>
    have hn := List.getLast?_eq_none_iff.1 hl
    refine .inl ⟨rfl, fun b hb => ?_⟩
    obtain ⟨e, y, rfl, _⟩ := (ordR_mem h).1 hb
    rw [keyT_nat]
    by_cases hc : τ e < t
    · have := (htk e).2 ⟨hb, hc⟩
      rw [hn] at this
      cases this
    · omega
  | some a =>
    obtain ⟨h1, h2⟩ := (htk a).1 (List.mem_of_getLast? hl)
    refine .inr ⟨h1, by simp only [keyT_nat]; exact h2, by show ((a : Nat) : Int) ≠ -1; omega, fun b hb => ?_⟩
    obtain ⟨e, y, rfl, _⟩ := (ordR_mem h).1 hb
    show keyT τ (e : Int) ≤ keyT τ (a : Int) ∨ t ≤ keyT τ (e : Int)
    rw [keyT_nat, keyT_nat]
    by_cases hc : τ e < t
    · refine .inl ?_
      have hm := (htk e).2 ⟨hb, hc⟩
      obtain ⟨l', hl'⟩ := List.getLast?_eq_some_iff.1 hl
      have hpw : ((R.take t).filter (isWr E loc)).Pairwise fun a b => τ a < τ b := (List.Pairwise.sublist (List.take_sublist t R) h.pw).filter _
      rw [hl'] at hm hpw
      rw [List.pairwise_append] at hpw
      rcases List.mem_append.1 hm with q | q
      · have := hpw.2.2 e q a (List.mem_singleton.2 rfl)
        omega
      · have : e = a := by simpa using q
        rw [this]
        exact Nat.le_refl _
    · exact .inr (by omega)

/-- What is read and written as one goes along the row. -/
def rowX (E : List Evt) (R : List Nat) (τ : Nat → Nat) : Exe := ⟨(rdsX E 0).map fun p => lastR E R p.2.loc (τ p.1), [ordR E R 0, ordR E R 1, ordR E R 2]⟩

theorem rowX_ord (E : List Evt) (R : List Nat) (τ : Nat → Nat) {loc : Int} (h : locB loc = true) : ordAt (rowX E R τ) loc = ordR E R loc := by
  unfold locB at h
  simp only [Bool.and_eq_true, decide_eq_true_eq] at h
  have : loc = 0 ∨ loc = 1 ∨ loc = 2 := by omega
  rcases this with rfl | rfl | rfl <;> rfl

theorem rowX_isEx {E : List Evt} {R : List Nat} {τ : Nat → Nat} (h : RowOk E R τ) : IsEx E (rowX E R τ) := by
  refine ⟨by simp [rowX], fun q hq => ?_, rfl, fun j l hl => ?_⟩
  · unfold rowX at hq
    simp only at hq
    rw [zip_self] at hq
    obtain ⟨⟨r, y⟩, hp, rfl⟩ := List.mem_map.1 hq
    rcases lastR_spec h y.loc (τ r) with ⟨h1, _⟩ | ⟨h1, _⟩
    · exact .inl h1
    · exact .inr ((ordR_wrs h).1 h1)
  · match j, hl with
    | 0, hl => simp [rowX] at hl; subst hl; exact ⟨ordR_nodup h _, fun _ => ordR_wrs h⟩
    | 1, hl => simp [rowX] at hl; subst hl; exact ⟨ordR_nodup h _, fun _ => ordR_wrs h⟩
    | 2, hl => simp [rowX] at hl; subst hl; exact ⟨ordR_nodup h _, fun _ => ordR_wrs h⟩
    | j + 3, hl => simp [rowX] at hl

theorem rowX_rest {E : List Evt} {R : List Nat} {τ : Nat → Nat} (h : RowOk E R τ) {r : Nat} {y : Evt} (hy : E[r]? = some y) (hk : y.kind = 0) {b : Int} (hb : b ∈ restL (ordR E R y.loc) (lastR E R y.loc (τ r))) : τ r < keyT τ b := by
  have hbm : b ∈ ordR E R y.loc := restL_mem hb
  obtain ⟨e, z, rfl, e1, e2, _⟩ := (ordR_mem h).1 hbm
  have hne : τ e ≠ τ r := fun q => by
    have := h.inj (List.getElem?_eq_some_iff.1 e1).1 (List.getElem?_eq_some_iff.1 hy).1 q
    subst this
    rw [hy] at e1
    cases e1
    omega
  rw [keyT_nat]
  rcases lastR_spec h y.loc (τ r) with ⟨_, h2⟩ | ⟨_, _, h3, h4⟩
  · have := h2 _ hbm
    rw [keyT_nat] at this
    omega
  · unfold restL at hb
    rw [if_neg (by simpa using h3)] at hb
    have := restK_gt (ordR_pw h y.loc) hb
    rw [keyT_nat] at this
    rcases h4 _ hbm with h5 | h5
    · rw [keyT_nat] at h5; omega
    · rw [keyT_nat] at h5; omega

theorem rowX_arw {E : List Evt} {R : List Nat} {τ : Nat → Nat} (h : RowOk E R τ) (hloc : ∀ y ∈ E, locB y.loc = true) : ∀ p ∈ arwL E (rowX E R τ), keyT τ p.1 < keyT τ p.2 := by
  intro p hp
  unfold arwL at hp
  rcases List.mem_append.1 hp with hp | hp
  · obtain ⟨q, hq, hp⟩ := List.mem_flatMap.1 hp
    rw [show (rowX E R τ).from' = (rdsX E 0).map fun p => lastR E R p.2.loc (τ p.1) from rfl, zip_self] at hq
    obtain ⟨⟨r, y⟩, hp0, rfl⟩ := List.mem_map.1 hq
    obtain ⟨_, hy, hk⟩ := rdsX_mem hp0
    rw [Nat.sub_zero] at hy
    unfold arw1 at hp
    simp only at hp
    rcases List.mem_append.1 hp with hp | hp
    · split at hp
      · cases hp
      · have : p = (lastR E R y.loc (τ r), (r : Int)) := by simpa using hp
        rw [this]
        rename_i hne
        simp only [keyT_nat]
        rcases lastR_spec h y.loc (τ r) with ⟨h1, _⟩ | ⟨_, h1, _⟩
        · rw [h1] at hne; simp at hne
        · exact h1
    · obtain ⟨h1, h2⟩ := fanL_mem.1 hp
      rw [rowX_ord E R τ (hloc y (List.mem_of_getElem? hy))] at h2
      rw [h1, keyT_nat]
      exact rowX_rest h hy hk h2
  · obtain ⟨l, hl, hp⟩ := List.mem_flatMap.1 hp
    have hl3 : l = ordR E R 0 ∨ l = ordR E R 1 ∨ l = ordR E R 2 := by simpa [rowX] using hl
    rcases hl3 with rfl | rfl | rfl <;> exact tailsK_lt (ordR_pw h _) hp

/-- Threads in their order; a Swap's two events side by side. -/
structure RowRun (E : List Evt) (τ : Nat → Nat) : Prop where
  thr : ∀ (a b : Nat) (ya yb : Evt), E[a]? = some ya → E[b]? = some yb → ya.thread = yb.thread → a < b → τ a < τ b
  swp : ∀ (r : Nat) (y : Evt), E[r]? = some y → y.kind = 0 → y.ins.op = 3 → τ (r + 1) = τ r + 1
  sec : ∀ m ∈ mtL (thoL 2 E 0) (thoL 3 E 0) (thoL 4 E 0), keyT τ m.e < keyT τ m.f ∨ keyT τ m.s < keyT τ m.b

theorem rowX_torn {T : List (List Ins)} {E : List Evt} (hE : E = evsT T 0) (hloc : ∀ y ∈ E, locB y.loc = true) {R : List Nat} {τ : Nat → Nat} (h : RowOk E R τ) (hr : RowRun E τ) : tornB E (rowX E R τ) = false := by
  cases ht : tornB E (rowX E R τ)
  · rfl
  · exfalso
    unfold tornB at ht
    obtain ⟨q, hq, ht⟩ := List.any_eq_true.1 ht
    rw [show (rowX E R τ).from' = (rdsX E 0).map fun p => lastR E R p.2.loc (τ p.1) from rfl, zip_self] at hq
    obtain ⟨⟨r, y⟩, hp0, rfl⟩ := List.mem_map.1 hq
    obtain ⟨_, hy, hk⟩ := rdsX_mem hp0
    rw [Nat.sub_zero] at hy
    unfold torn1 at ht
    simp only [Bool.and_eq_true, beq_iff_eq] at ht
    obtain ⟨hop, hhd⟩ := ht
    have hsw : SwOk E := by rw [hE]; exact swOk_T T 0
    obtain ⟨z, hz, hzk, hzl⟩ : ∃ z, E[r + 1]? = some z ∧ z.kind = 1 ∧ z.loc = y.loc := ⟨_, hsw.s1 r y hy hk hop, rfl, rfl⟩
    have hnext := hr.swp r y hy hk hop
    rw [rowX_ord E R τ (hloc y (List.mem_of_getElem? hy))] at hhd
    have hmem : ((r + 1 : Nat) : Int) ∈ restL (ordR E R y.loc) (lastR E R y.loc (τ r)) := by
      have hw : ((r + 1 : Nat) : Int) ∈ ordR E R y.loc := (ordR_mem h).2 ⟨r + 1, z, rfl, hz, hzk, hzl⟩
      unfold restL
      rcases lastR_spec h y.loc (τ r) with ⟨h1, _⟩ | ⟨h1, h2, h3, _⟩
      · rw [h1]; simpa using hw
      · rw [if_neg (by simpa using h3)]
        exact restK_in (ordR_pw h y.loc) h1 hw (by rw [keyT_nat, hnext]; omega)
    have hall : ∀ b ∈ restL (ordR E R y.loc) (lastR E R y.loc (τ r)), τ r < keyT τ b := fun b hb => rowX_rest h hy hk hb
    have hsrt : (restL (ordR E R y.loc) (lastR E R y.loc (τ r))).Pairwise fun a b => keyT τ a < keyT τ b := by
      unfold restL
      split
      · exact ordR_pw h _
      · exact restK_sorted (ordR_pw h _) _
    have hsub : ∀ b ∈ restL (ordR E R y.loc) (lastR E R y.loc (τ r)), b ∈ ordR E R y.loc := fun b hb => restL_mem hb
    generalize restL (ordR E R y.loc) (lastR E R y.loc (τ r)) = L at *
    cases L with
    | nil => cases hmem
    | cons a L =>
      rw [List.pairwise_cons] at hsrt
      have h1 := hall a (List.mem_cons_self ..)
      have h2 : a = (r : Int) + 1 := by
        rcases List.mem_cons.1 hmem with e | e
        · omega
        · have h3 := hsrt.1 _ e
          rw [keyT_nat, hnext] at h3
          omega
      simp [headNe, h2] at hhd

theorem along_D {E : List Evt} {τ : Nat → Nat} (hr : RowRun E τ) {P : Nat → Nat → Evt → Evt → Bool} (hP : ∀ i j a b, P i j a b = true → a.thread = b.thread) : ∀ p ∈ allD (pairB E P) E.length E.length, keyT τ p.1 < keyT τ p.2 := by
  intro p hp
  obtain ⟨a, b, ha, hb, rfl⟩ := allD_arws _ _ p hp
  obtain ⟨_, h2, h3⟩ := allD_mem.1 hp
  obtain ⟨ya, hya⟩ := get_of_lt ha
  obtain ⟨yb, hyb⟩ := get_of_lt hb
  rw [pairB_get hya hyb] at h3
  simp only [keyT_nat]
  exact hr.thr a b ya yb hya hyb (hP a b ya yb h3) h2

/-- It is allowed. -/
theorem rowX_alw {T : List (List Ins)} (hF : Fits T) {R : List Nat} {τ : Nat → Nat} (h : RowOk (evsT T 0) R τ) (hr : RowRun (evsT T 0) τ) : Alw T (evsT T 0) (rowX (evsT T 0) R τ) := by
  have hA := rowX_arw h hF.locs
  have hk : ∀ p ∈ kepA T (evsT T 0) (rowX (evsT T 0) R τ), keyT τ p.1 < keyT τ p.2 := fun p hp => by
    rcases List.mem_append.1 hp with q | q
    · exact hA p q
    · exact along_D hr (fun i j a b hab => by unfold keepP at hab; rw [Bool.and_eq_true, beq_iff_eq] at hab; exact hab.1) p q
  have hc : ∀ p ∈ cohA (evsT T 0) (rowX (evsT T 0) R τ), keyT τ p.1 < keyT τ p.2 := fun p hp => by
    rcases List.mem_append.1 hp with q | q
    · exact hA p q
    · exact along_D hr (fun i j a b hab => by unfold cohP at hab; simp only [Bool.and_eq_true, beq_iff_eq] at hab; exact hab.1.2) p q
  exact .inr ⟨along_acyclic _ hc, .inr ⟨rowX_torn rfl hF.locs h hr, .inr ⟨along_acyclic _ hk, .inr ⟨fun hn => hn (along_parts _ hk hr.sec), rfl⟩⟩⟩⟩

end Go.Proofs.Ytomijmikkbhgmab

namespace Go.Proofs.Ytomijmikkbhgmab

theorem rowX_src {T : List (List Ins)} (hF : Fits T) {R : List Nat} {τ : Nat → Nat} (h : RowOk (evsT T 0) R τ) {r : Nat} {y : Evt} (hy : (evsT T 0)[r]? = some y) (hk : y.kind = 0) : srcS (evsT T 0) (rowX (evsT T 0) R τ) r = lastR (evsT T 0) R y.loc (τ r) := by
  have hr := (rowX_isEx h).ranks hF.el hF.locs
  have hz := (hr.zip r y _).2 ⟨hy, hk, rfl⟩
  rw [show (rowX (evsT T 0) R τ).from' = (rdsX (evsT T 0) 0).map fun p => lastR (evsT T 0) R p.2.loc (τ p.1) from rfl, zip_self] at hz
  obtain ⟨p, _, e⟩ := List.mem_map.1 hz
  have e1 := congrArg (fun q => q.2) e
  have e2 := congrArg (fun q => q.1) e
  simp only at e1 e2
  rw [e2] at e1
  exact e1.symm

/-- What an event holds. -/
def valR (T : List (List Ins)) (R : List Nat) (τ : Nat → Nat) (a : Int) : Int := valN (evsT T 0) (srcS (evsT T 0) (rowX (evsT T 0) R τ)) (2 * (evsT T 0).length) a

theorem srcG_same {E : List Evt} {y : Evt} {i j : Nat} (h : srcG y (E.take i) 0 (-1) = (j : Int)) : j < i ∧ ∃ z, E[j]? = some z ∧ z.kind = 0 ∧ z.thread = y.thread ∧ z.ins.reg = y.ins.reg := by
  rcases srcG_spec y (E.take i) 0 (-1) j h with h | ⟨_, z, h2, h3, h4, h5⟩
  · omega
  · rw [Nat.sub_zero] at h2
    have hj : j < i := by
      have := (List.getElem?_eq_some_iff.1 h2).1
      rw [List.length_take] at this; omega
    rw [List.getElem?_take_of_lt hj] at h2
    exact ⟨hj, z, h2, h3, h4, h5⟩

structure ValR (T : List (List Ins)) (R : List Nat) (τ : Nat → Nat) (V : Int → Int) : Prop where
  neg : V (-1) = 0
  read : ∀ (r : Nat) (y : Evt), (evsT T 0)[r]? = some y → y.kind = 0 → V (r : Int) = V (lastR (evsT T 0) R y.loc (τ r))
  copy : ∀ (r : Nat) (y : Evt), (evsT T 0)[r]? = some y → y.kind = 1 → y.ins.op = 1 → V (r : Int) = V (srcG y ((evsT T 0).take r) 0 (-1))
  else' : ∀ (r : Nat) (y : Evt), (evsT T 0)[r]? = some y → y.kind = 1 → y.ins.op ≠ 1 → V (r : Int) = y.ins.val

theorem lastR_rng {E : List Evt} {R : List Nat} {τ : Nat → Nat} (h : RowOk E R τ) (loc : Int) (t : Nat) : lastR E R loc t = -1 ∨ ∃ a : Nat, lastR E R loc t = (a : Int) ∧ a < E.length ∧ τ a < t := by
  rcases lastR_spec h loc t with ⟨h1, _⟩ | ⟨h1, h2, _⟩
  · exact .inl h1
  · obtain ⟨e, y, e1, e2, _⟩ := (ordR_mem h).1 h1
    refine .inr ⟨e, e1, (List.getElem?_eq_some_iff.1 e2).1, ?_⟩
    rw [e1, keyT_nat] at h2
    exact h2

theorem valR_thr {T : List (List Ins)} (hF : Fits T) {R : List Nat} {τ : Nat → Nat} (h : RowOk (evsT T 0) R τ) (hthr : ∀ (a b : Nat) (ya yb : Evt), (evsT T 0)[a]? = some ya → (evsT T 0)[b]? = some yb → ya.thread = yb.thread → a < b → τ a < τ b) : ValR T R τ (valR T R τ) := by
  have hn : ∀ a, a < (evsT T 0).length → τ a < (evsT T 0).length := fun a ha => by
    have h1 := (List.getElem?_eq_some_iff.1 (h.pos a ha)).1
    have h2 : R.length ≤ (evsT T 0).length := by
      have hnd : (R.map fun e : Nat => (e : Int)).Nodup := List.pairwise_map.2 (h.pw.imp fun {x y} hab e => by
        have : x = y := by omega
        rw [this] at hab
        omega)
      have := nodup_le (m := (List.range (evsT T 0).length).map fun e : Nat => (e : Int)) hnd (fun x hx => by
        obtain ⟨e, he, rfl⟩ := List.mem_map.1 hx
        exact List.mem_map.2 ⟨e, List.mem_range.2 (h.mem.1 he), rfl⟩)
      simpa using this
    omega
  have st := valN_stable (E := evsT T 0) (S := srcS (evsT T 0) (rowX (evsT T 0) R τ)) τ (fun i y hy hk j hj _ => by
    rw [rowX_src hF h hy (by simpa using hk)] at hj
    rcases lastR_rng h y.loc (τ i) with e | ⟨a, e, _, e2⟩
    · omega
    · have : a = j := by omega
      rw [← this]; exact e2) (fun i y hy _ _ j hj _ => by
    obtain ⟨q1, z, q2, _, q4, _⟩ := srcG_same hj
    exact hthr j i z y q2 hy q4 q1)
  have deep : ∀ (s : Int) (d : Nat), (s = -1 ∨ ∃ a : Nat, s = (a : Int) ∧ a < (evsT T 0).length) → (evsT T 0).length ≤ d → valN (evsT T 0) (srcS (evsT T 0) (rowX (evsT T 0) R τ)) d s = valR T R τ s := by
    rintro s d (rfl | ⟨a, rfl, ha⟩) hd
    · unfold valR
      rw [valN_neg _ _ _ (by omega), valN_neg _ _ _ (by omega)]
    · have := hn a ha
      exact st _ a (Nat.le_refl _) d _ (by omega) (by omega)
  refine ⟨valN_neg _ _ _ (by omega), fun r y hy hk => ?_, fun r y hy hk ho => ?_, fun r y hy hk ho => ?_⟩
  · have hl := (List.getElem?_eq_some_iff.1 hy).1
    obtain ⟨d, hd⟩ : ∃ d, 2 * (evsT T 0).length = d + 1 := ⟨2 * (evsT T 0).length - 1, by omega⟩
    conv => lhs; unfold valR
    rw [hd, valN_read hy (by simp [hk]), rowX_src hF h hy hk]
    refine deep _ d ?_ (by omega)
    rcases lastR_rng h y.loc (τ r) with e | ⟨a, e, ha, _⟩
    · exact .inl e
    · exact .inr ⟨a, e, ha⟩
  · have hl := (List.getElem?_eq_some_iff.1 hy).1
    obtain ⟨d, hd⟩ : ∃ d, 2 * (evsT T 0).length = d + 1 := ⟨2 * (evsT T 0).length - 1, by omega⟩
    conv => lhs; unfold valR
    rw [hd, valN_copy hy (by simp [hk]) (by simp [ho])]
    refine deep _ d ?_ (by omega)
    rcases srcG_range y ((evsT T 0).take r) 0 (-1) (.inl rfl) with e | ⟨a, e, ha⟩
    · exact .inl e
    · rw [List.length_take] at ha
      exact .inr ⟨a, e, by omega⟩
  · have hl := (List.getElem?_eq_some_iff.1 hy).1
    obtain ⟨d, hd⟩ : ∃ d, 2 * (evsT T 0).length = d + 1 := ⟨2 * (evsT T 0).length - 1, by omega⟩
    unfold valR
    rw [hd, valN_else hy (by simp [hk]) (by simpa using ho)]

theorem valR_ok {T : List (List Ins)} (hF : Fits T) {R : List Nat} {τ : Nat → Nat} (h : RowOk (evsT T 0) R τ) (hr : RowRun (evsT T 0) τ) : ValR T R τ (valR T R τ) := valR_thr hF h hr.thr

/-- The state in the end. -/
theorem rowX_state {T : List (List Ins)} (hF : Fits T) {R : List Nat} {τ : Nat → Nat} (h : RowOk (evsT T 0) R τ) (hr : RowRun (evsT T 0) τ) : stX T (evsT T 0) (rowX (evsT T 0) R τ) = ((List.range T.length).flatMap fun i : Nat => (List.range 3).map fun r : Nat => valR T R τ (srcG (evtOf (i : Int) (r : Int)) (evsT T 0) 0 (-1))) ++ (List.range 3).map fun l : Nat => valR T R τ (lastR (evsT T 0) R (l : Int) R.length) := by
  have hx := rowX_isEx h
  have hfr : ∀ d f, valN (evsT T 0) (frS (evsT T 0) (rowX (evsT T 0) R τ)) d f = valN (evsT T 0) (srcS (evsT T 0) (rowX (evsT T 0) R τ)) d f := fun d f => valN_congr (fun i y hy hk => (src_same hF.el hF.locs hx i y hy hk).symm) d f
  unfold stX staL
  congr 1
  · congr 1
    funext i
    congr 1
    funext r
    unfold regV
    rw [hfr]
    rfl
  · have hl : ∀ l : Nat, l < 3 → locV (evsT T 0) (frS (evsT T 0) (rowX (evsT T 0) R τ)) (rowX (evsT T 0) R τ) l = valR T R τ (lastR (evsT T 0) R (l : Int) R.length) := fun l hl => by
      have ho : (rowX (evsT T 0) R τ).order.getD l [] = ordR (evsT T 0) R (l : Int) := by
        match l, hl with
        | 0, _ => rfl
        | 1, _ => rfl
        | 2, _ => rfl
      unfold locV lastR ordR at *
      rw [ho, List.getLast?_map, List.take_length]
      cases (R.filter (isWr (evsT T 0) (l : Int))).getLast? with
      | none => exact (valR_ok hF h hr).neg.symm
      | some w => simp only [Option.map_some]; rw [hfr]; rfl
    refine List.map_congr_left fun l hm => hl l (List.mem_range.1 hm)

end Go.Proofs.Ytomijmikkbhgmab

namespace Go.Proofs.Ytomijmikkbhgmab
open Go.RowKit

set_option maxHeartbeats 1000000 in
theorem asked_any (T : List (List Ins)) (fa : Bool) (c : List Atm) (v vt vc : Value) (w : World) (h : TestAt w v T fa c vt vc) :
    Calls Try.prog 28 #[v] w fun e w' => e = .returned (.int .i64 (chk T c).1) ∧ Below w.heap.size w w' := by
  have HT : Hid (TestAt w v T fa c vt vc) := h
  obtain ⟨hv, _, _⟩ := h
  subst hv
  go_enter Try.func28, Try.ntmps28
  go_wp2_with fail
  refine (checkR_any T fa c _ vt vc _ (HT.out.keep (below_alloc _ _))).mono ?_
  rintro e w3 ⟨rfl, hb3⟩
  have hbw3 := below_more (below_alloc _ _) hb3
  go_wp2_with fail
  go_ret
  exact ⟨rfl, hbw3⟩

theorem lx_step {a b : List Int} {k : Nat} {x : Int} (hx : a[k]? = some x) (hy : b[k]? = some x) : lx (a.drop k) (b.drop k) = lx (a.drop (k + 1)) (b.drop (k + 1)) := by
  rw [drop_cons hx, drop_cons hy, lx, if_pos (by simp)]

theorem lx_here {a b : List Int} {k : Nat} {x y : Int} (hx : a[k]? = some x) (hy : b[k]? = some y) (h : x ≠ y) : lx (a.drop k) (b.drop k) = decide (x < y) := by
  rw [drop_cons hx, drop_cons hy, lx, if_neg (by simpa using h)]

set_option maxHeartbeats 1000000 in
theorem less_any (l m : List Int) (hl : l.length ≤ 100000) (_hm : m.length ≤ 100000) (hlx : lx l m = true) (u v : Value) (w : World) (hu : IntAt w u l) (hv : IntAt w v m) :
    Calls Try.prog 49 #[u, v] w fun e w' => e = .returned (.bool true) ∧ Below w.heap.size w w' := by
  obtain ⟨ao, b, off, cap, hv1, ha, _, hc⟩ := hu
  obtain ⟨ao2, b2, off2, cap2, hv2, ha2, _, hc2⟩ := hv
  subst hv1 hv2
  have HC : Hid ((∀ k x, l[k]? = some x → IntC w b (off + k * 1) x) ∧ (∀ k x, m[k]? = some x → IntC w b2 (off2 + k * 1) x)) := ⟨hc, hc2⟩
  have HLX : Hid (lx l m = true) := hlx
  clear hc hc2 hlx
  go_enter Try.func49, Try.ntmps49
  go_wp2_with fail
  go_loopw [5] (fun i wr => ∃ k : Nat, k ≤ l.length ∧ k ≤ m.length ∧ i = .int .i64 k ∧ Hid (lx (l.drop k) (m.drop k) = true) ∧ Below w.heap.size w wr) (fun i _ => l.length - (intOf i).toNat)
  case atStart => exact ⟨0, Nat.zero_le _, Nat.zero_le _, rfl, HLX.out, Below.refl _ _⟩
  case round =>
    obtain ⟨k, hk, hk2, rfl, hn, hb⟩ := hrel
    clear HLX
    have hlt : k < l.length := by
      refine Nat.lt_of_not_le fun h => ?_
      have := hn.out
      rw [drop_nil (by omega)] at this
      simp [lx] at this
    have hlt2 : k < m.length := by
      refine Nat.lt_of_not_le fun h => ?_
      have := hn.out
      rw [drop_nil (l := m) (by omega)] at this
      cases hh : l.drop k <;> rw [hh] at this <;> simp [lx] at this
    obtain ⟨x, hx⟩ := get_of_lt hlt
    obtain ⟨y, hy⟩ := get_of_lt hlt2
    obtain rfl := ha (ne_nil hlt)
    obtain rfl := ha2 (ne_nil hlt2)
    have c0 := intC_keeps _ _ _ _ _ hb (HC.out.1 k x hx)
    have d0 := intC_keeps _ _ _ _ _ hb (HC.out.2 k y hy)
    unfold IntC at c0 d0
    rw [Nat.mul_one] at c0 d0
    have hkI : (k : Int) < (l.length : Int) := by omega
    have hkI2 : (k : Int) < (m.length : Int) := by omega
    by_cases hxy : x = y
    · subst hxy
      have HM : Hid (lx (l.drop (k + 1)) (m.drop (k + 1)) = true) := (lx_step hx hy).symm.trans hn.out
      have n0 : (x != x) = false := by simp
      clear hx hy hn
      go_wp2_with fail
      go_quiet (fail)
      go_wp2_with fail
      go_roundw
      case measure => simp [intOf]; omega
      case rel => exact ⟨k + 1, by omega, by omega, by go_num, HM.out, below_drewN hb _⟩
    · have n0 : (x != y) = true := by simpa using hxy
      have n1 : x < y := by
        have := (lx_here hx hy hxy).symm.trans hn.out
        simpa using this
      clear hx hy hn
      go_wp2_with fail
      go_quiet (fail)
      go_wp2_with fail
      go_quiet (fail)
      go_wp2_with fail
      go_ret
      exact ⟨rfl, below_drewN (below_drewN hb _) _⟩

end Go.Proofs.Ytomijmikkbhgmab
