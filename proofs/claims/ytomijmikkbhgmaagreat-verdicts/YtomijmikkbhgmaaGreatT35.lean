import Derived.Test.YtomijmikkbhgmaaGreatT23
import Derived.Test.YtomijmikkbhgmaaGreatT34
namespace Go.Proofs.YtomijmikkbhgmaaGreat

theorem wrs_iff {E : List Evt} {loc a : Int} : a ∈ wrs E 0 loc ↔ ∃ (i : Nat) (y : Evt), E[i]? = some y ∧ a = (i : Int) ∧ y.kind = 1 ∧ y.loc = loc := by
  constructor
  · intro h
    obtain ⟨i, x, h1, h2, h3, h4⟩ := wrs_mem h
    exact ⟨i, x, h1, by rw [h2]; simp, h3, h4⟩
  · rintro ⟨i, y, h1, rfl, h3, h4⟩
    have hc := wrs_count (k := 0) (loc := loc) h1
    rw [Nat.zero_add, h3, h4] at hc
    simp at hc
    exact List.count_pos_iff.1 (by omega)

theorem wrs_nodup (E : List Evt) (loc : Int) : (wrs E 0 loc).Nodup := (wrs_sorted E 0 loc).imp fun h => by omega

/-- As many, and none is missing: then there are no others, and none stands twice. -/
theorem shuf_spec {l m : List Int} (hm : m.Nodup) (h : shufB l m = true) : l.Nodup ∧ ∀ a, a ∈ l ↔ a ∈ m := by
  unfold shufB at h
  simp only [Bool.and_eq_true, beq_iff_eq, List.all_eq_true] at h
  obtain ⟨h1, h2⟩ := h
  have hsub : ∀ x ∈ m, x ∈ l := fun x hx => by simpa using h2 x hx
  have key : ∀ (l m : List Int), m.Nodup → l.length = m.length → (∀ x ∈ m, x ∈ l) → l.Nodup ∧ ∀ a, a ∈ l → a ∈ m := by
    intro l
    induction l with
    | nil => intro m _ _ _; exact ⟨List.nodup_nil, fun a h => by cases h⟩
    | cons x l ih =>
      intro m hm hl hs
      have hxm : x ∈ m := by
        refine Classical.byContradiction fun hx => ?_
        have h3 : ∀ z ∈ m, z ∈ l := fun z hz => by
          rcases List.mem_cons.1 (hs z hz) with rfl | h
          · exact absurd hz hx
          · exact h
        have := nodup_le hm h3
        simp at hl; omega
      have hm2 : (m.erase x).Nodup := hm.erase x
      have hl2 : l.length = (m.erase x).length := by rw [List.length_erase_of_mem hxm]; simp at hl; omega
      have hs2 : ∀ z ∈ m.erase x, z ∈ l := fun z hz => by
        have hzx : z ≠ x := fun e => by
          subst e
          exact (List.Nodup.not_mem_erase hm) hz
        rcases List.mem_cons.1 (hs z (List.mem_of_mem_erase hz)) with rfl | h
        · exact absurd rfl hzx
        · exact h
      obtain ⟨k1, k2⟩ := ih (m.erase x) hm2 hl2 hs2
      refine ⟨List.nodup_cons.2 ⟨fun hx => (List.Nodup.not_mem_erase hm) (k2 x hx), k1⟩, fun a ha => ?_⟩
      rcases List.mem_cons.1 ha with rfl | ha
      · exact hxm
      · exact List.mem_of_mem_erase (k2 a ha)
  obtain ⟨k1, k2⟩ := key l m hm h1 hsub
  exact ⟨k1, fun a => ⟨k2 a, hsub a⟩⟩

/-- What an execution is. -/
structure IsEx (E : List Evt) (x : Exe) : Prop where
  f : x.from'.length = (rdsX E 0).length
  fw : ∀ q ∈ (rdsX E 0).zip x.from', q.2 = -1 ∨ q.2 ∈ wrs E 0 q.1.2.loc
  o3 : x.order.length = 3
  od : ∀ (j : Nat) (l : List Int), x.order[j]? = some l → l.Nodup ∧ ∀ a, a ∈ l ↔ a ∈ wrs E 0 (j : Int)

theorem isEx_of {E : List Evt} {x : Exe} (h : exeB E x = true) : IsEx E x := by
  unfold exeB at h
  simp only [Bool.and_eq_true, beq_iff_eq, List.all_eq_true] at h
  obtain ⟨⟨h1, h2⟩, h3, h4⟩ := h
  refine ⟨h1, fun q hq => ?_, h2, fun j l hl => ?_⟩
  · have := h3 q hq
    unfold okFrom at this
    simp only [Bool.or_eq_true, List.contains_iff_mem, beq_iff_eq] at this
    rcases this with h | h
    · exact .inr h
    · exact .inl h
  · have hj : j < 3 := by have := (List.getElem?_eq_some_iff.1 hl).1; omega
    have := h4 j (by rw [List.mem_range'_1]; omega)
    unfold okOrd at this
    rw [List.getD, hl] at this
    exact shuf_spec (wrs_nodup E _) this

theorem IsEx.len {E : List Evt} (hE : E.length ≤ 96) {x : Exe} (h : IsEx E x) {j : Nat} {l : List Int} (hl : x.order[j]? = some l) : l.length ≤ 96 := by
  obtain ⟨h1, h2⟩ := h.od j l hl
  have := nodup_le h1 (fun a ha => (h2 a).1 ha)
  have := wrs_len E 0 (j : Int)
  omega

theorem IsEx.xok {E : List Evt} (hE : E.length ≤ 96) (hloc : ∀ y ∈ E, locB y.loc = true) {x : Exe} (h : IsEx E x) : XOk E x := by
  have hw : ∀ {a loc : Int}, a ∈ wrs E 0 loc → ∃ i : Nat, i < E.length ∧ a = (i : Int) := fun ha => by
    obtain ⟨i, y, h1, h2, _⟩ := wrs_iff.1 ha
    exact ⟨i, (List.getElem?_eq_some_iff.1 h1).1, h2⟩
  have hl : ∀ l ∈ x.order, ∀ a ∈ l, ∃ i : Nat, i < E.length ∧ a = (i : Int) := fun l hl a ha => by
    obtain ⟨j, hj⟩ := List.mem_iff_getElem?.1 hl
    exact hw (((h.od j l hj).2 a).1 ha)
  refine ⟨h.f, h.o3, fun l hl => ?_, fun p hp => ?_⟩
  · obtain ⟨j, hj⟩ := List.mem_iff_getElem?.1 hl
    exact h.len hE hj
  · unfold arwL at hp
    rcases List.mem_append.1 hp with hp | hp
    · obtain ⟨q, hq, hp⟩ := List.mem_flatMap.1 hp
      obtain ⟨⟨r, y⟩, f⟩ := q
      have hr := rdsX_get (List.of_mem_zip hq).1
      have hrE : r < E.length := by have := (List.getElem?_eq_some_iff.1 hr.2).1; simpa using this
      unfold arw1 at hp
      rcases List.mem_append.1 hp with hp | hp
      · simp only at hp
        split at hp
        · cases hp
        · rename_i hf
          simp at hp
          subst hp
          rcases h.fw _ hq with h1 | h1
          · simp only at h1; rw [h1] at hf; simp at hf
          · obtain ⟨i, hi, e⟩ := hw h1
            simp only at e
            exact ⟨i, r, hi, hrE, by rw [e]⟩
      · obtain ⟨h1, h2⟩ := fanL_mem.1 hp
        have h3 := restL_mem h2
        have hyl := hloc y (List.mem_of_getElem? hr.2)
        obtain ⟨m, _, _, hog⟩ := ordAt_get h.o3 hyl
        obtain ⟨i, hi, e⟩ := hl _ (List.mem_of_getElem? hog) _ h3
        exact ⟨r, i, hrE, hi, by rw [← e, ← h1]⟩
    · obtain ⟨l, hlm, hp⟩ := List.mem_flatMap.1 hp
      obtain ⟨h1, h2⟩ := tailsL_mem hp
      obtain ⟨i, hi, e1⟩ := hl l hlm _ h1
      obtain ⟨k, hk, e2⟩ := hl l hlm _ h2
      exact ⟨i, k, hi, hk, by rw [← e1, ← e2]⟩

/-- The Reads with their sources, by their numbers. -/
theorem src_zip (E : List Evt) (F : List Int) (i : Nat) (hF : F.length = (rdsX E i).length) (r : Nat) (y : Evt) (f : Int) :
    ((r, y), f) ∈ (rdsX E i).zip F ↔ i ≤ r ∧ E[r - i]? = some y ∧ y.kind = 0 ∧ (srcL E F)[r - i]? = some f := by
  induction E generalizing F i with
  | nil => simp [rdsX]
  | cons x E ih =>
    have shift : ∀ {α : Type} (a : α) (l : List α) (b : α), i + 1 ≤ r → ((a :: l)[r - i]? = some b ↔ l[r - (i + 1)]? = some b) := fun a l b h => by
      rw [show r - i = (r - (i + 1)) + 1 by omega]; simp
    cases hk : x.kind == 0
    · rw [rdsX_mis hk] at hF ⊢
      rw [ih F (i + 1) hF, srcL_not hk]
      constructor
      · rintro ⟨h1, h2, h3, h4⟩
        exact ⟨by omega, (shift _ _ _ h1).2 h2, h3, (shift _ _ _ h1).2 h4⟩
      · rintro ⟨h1, h2, h3, h4⟩
        by_cases e : r = i
        · subst e
          rw [Nat.sub_self] at h2
          simp at h2
          subst h2
          rw [h3] at hk; simp at hk
        · have h1' : i + 1 ≤ r := by omega
          exact ⟨h1', (shift _ _ _ h1').1 h2, h3, (shift _ _ _ h1').1 h4⟩
    · rw [rdsX_hit hk] at hF ⊢
      cases F with
      | nil => simp at hF
      | cons f0 F =>
        rw [List.zip_cons_cons, List.mem_cons, ih F (i + 1) (by simpa using hF), srcL_read hk]
        constructor
        · rintro (e | ⟨h1, h2, h3, h4⟩)
          · simp only [Prod.mk.injEq] at e
            obtain ⟨⟨rfl, rfl⟩, rfl⟩ := e
            exact ⟨Nat.le_refl _, by simp, by simpa using hk, by simp⟩
          · exact ⟨by omega, (shift _ _ _ h1).2 h2, h3, (shift _ _ _ h1).2 h4⟩
        · rintro ⟨h1, h2, h3, h4⟩
          by_cases e : r = i
          · subst e
            rw [Nat.sub_self] at h2 h4
            simp at h2 h4
            subst h2 h4
            exact .inl rfl
          · have h1' : i + 1 ≤ r := by omega
            exact .inr ⟨h1', (shift _ _ _ h1').1 h2, h3, (shift _ _ _ h1').1 h4⟩

theorem src_other (E : List Evt) (F : List Int) (b : Nat) (y : Evt) (h : E[b]? = some y) (hk : y.kind ≠ 0) : (srcL E F)[b]? = some (-1) := by
  induction E generalizing F b with
  | nil => simp at h
  | cons x E ih =>
    cases b with
    | zero =>
      simp at h
      subst h
      rw [srcL_not (by simpa using hk)]
      rfl
    | succ b =>
      have h' : E[b]? = some y := by simpa using h
      cases hx : x.kind == 0
      · rw [srcL_not hx]; simpa using ih F b h'
      · cases F with
        | nil => rw [srcL_out hx]; simpa using ih [] b h'
        | cons f F => rw [srcL_read hx]; simpa using ih F b h'

end Go.Proofs.YtomijmikkbhgmaaGreat

namespace Go.Proofs.YtomijmikkbhgmaaGreat

theorem ordG_not {n : Nat} {L : List (List Int)} {a : Nat} (h : ∀ l ∈ L, (a : Int) ∉ l) (g : Nat → Int) : ordG n L g a = g a := by
  induction L generalizing g with
  | nil => rfl
  | cons l L ih =>
    rw [ordG, ih (fun m hm => h m (List.mem_cons_of_mem _ hm)), wrG_not (h l (List.mem_cons_self ..))]

theorem ordG_at {n : Nat} {L : List (List Int)} {a j q : Nat} {l : List Int} (ha : a < n) (hj : L[j]? = some l) (hnd : l.Nodup) (hq : l[q]? = some (a : Int)) (ho : ∀ k l', k ≠ j → L[k]? = some l' → (a : Int) ∉ l') (g : Nat → Int) : ordG n L g a = ((q + 1 : Nat) : Int) := by
  induction L generalizing j g with
  | nil => simp at hj
  | cons m L ih =>
    rw [ordG]
    cases j with
    | zero =>
      simp at hj
      subst hj
      rw [ordG_not (fun l' hl' => ?_), wrG_at hnd ha hq]
      · omega
      · obtain ⟨k, hk⟩ := List.mem_iff_getElem?.1 hl'
        exact ho (k + 1) l' (by omega) (by simpa using hk)
    | succ j => exact ih (by simpa using hj) (fun k l' hk hl' => ho (k + 1) l' (by omega) (by simpa using hl')) _

theorem restG_drop {l : List Int} (hnd : l.Nodup) {q : Nat} {f : Int} (h : l[q]? = some f) : restG l f = l.drop (q + 1) := by
  induction l generalizing q with
  | nil => simp at h
  | cons x l ih =>
    obtain ⟨h1, h2⟩ := List.nodup_cons.1 hnd
    unfold restG
    cases q with
    | zero => simp at h; subst h; rw [if_pos (by simp)]; rfl
    | succ q =>
      have h' : l[q]? = some f := by simpa using h
      have hne : x ≠ f := fun e => h1 (by rw [e]; exact List.mem_of_getElem? h')
      rw [if_neg (by simpa using hne), ih h2 h']
      rfl

theorem pos_eq {l : List Int} (hnd : l.Nodup) {p q : Nat} {a : Int} (hp : l[p]? = some a) (hq : l[q]? = some a) : p = q := by
  obtain ⟨h1, e1⟩ := List.getElem?_eq_some_iff.1 hp
  obtain ⟨h2, e2⟩ := List.getElem?_eq_some_iff.1 hq
  rcases Nat.lt_trichotomy p q with h | h | h
  · exact absurd (e1.trans e2.symm) (List.pairwise_iff_getElem.1 hnd p q h1 h2 h)
  · exact h
  · exact absurd (e2.trans e1.symm) (List.pairwise_iff_getElem.1 hnd q p h2 h1 h)

theorem drop_mem {l : List Int} (hnd : l.Nodup) {k q : Nat} {b : Int} (hq : l[q]? = some b) : b ∈ l.drop k ↔ k ≤ q := by
  constructor
  · intro h
    obtain ⟨i, hi⟩ := List.mem_iff_getElem?.1 h
    rw [List.getElem?_drop] at hi
    have := pos_eq hnd hi hq
    omega
  · intro h
    refine List.mem_iff_getElem?.2 ⟨q - k, ?_⟩
    rw [List.getElem?_drop, show k + (q - k) = q by omega]; exact hq

theorem tails_iff {l : List Int} (hnd : l.Nodup) {p q : Nat} {a b : Int} (hp : l[p]? = some a) (hq : l[q]? = some b) : (a, b) ∈ tailsL l ↔ p < q := by
  induction l generalizing p q with
  | nil => simp at hp
  | cons c l ih =>
    obtain ⟨h1, h2⟩ := List.nodup_cons.1 hnd
    unfold tailsL
    rw [List.mem_append, fanL_mem]
    cases p with
    | zero =>
      have hac : c = a := by simpa using hp
      subst hac
      cases q with
      | zero =>
        have hbc : c = b := by simpa using hq
        subst hbc
        constructor
        · rintro (⟨_, h⟩ | h)
          · exact absurd h h1
          · exact absurd (tailsL_mem h).1 h1
        · intro h; omega
      | succ q =>
        have hb : l[q]? = some b := by simpa using hq
        exact ⟨fun _ => by omega, fun _ => .inl ⟨rfl, List.mem_of_getElem? hb⟩⟩
    | succ p =>
      have ha : l[p]? = some a := by simpa using hp
      have hac : a ≠ c := fun e => h1 (by rw [← e]; exact List.mem_of_getElem? ha)
      cases q with
      | zero =>
        have hbc : c = b := by simpa using hq
        subst hbc
        constructor
        · rintro (⟨h, _⟩ | h)
          · exact absurd h hac
          · exact absurd (tailsL_mem h).2 h1
        · intro h; omega
      | succ q =>
        have hb : l[q]? = some b := by simpa using hq
        constructor
        · rintro (⟨h, _⟩ | h)
          · exact absurd h hac
          · have := (ih h2 ha hb).1 h; omega
        · intro h
          exact .inr ((ih h2 ha hb).2 (by omega))

/-- What the sources and the ranks of an execution are. -/
structure Ranks (E : List Evt) (x : Exe) (S R : Nat → Int) : Prop where
  other : ∀ (b : Nat) (y : Evt), E[b]? = some y → y.kind ≠ 0 → S b = -1
  zip : ∀ (r : Nat) (y : Evt) (f : Int), ((r, y), f) ∈ (rdsX E 0).zip x.from' ↔ E[r]? = some y ∧ y.kind = 0 ∧ S r = f
  read : ∀ (r : Nat) (y : Evt), E[r]? = some y → y.kind = 0 → (S r = -1 ∧ R r = 0) ∨ ∃ a q : Nat, S r = (a : Int) ∧ a < E.length ∧ (ordAt x y.loc)[q]? = some (a : Int) ∧ R r = ((q + 1 : Nat) : Int)
  write : ∀ (b : Nat) (y : Evt), E[b]? = some y → y.kind = 1 → ∃ q : Nat, (ordAt x y.loc)[q]? = some (b : Int) ∧ R b = ((q + 1 : Nat) : Int)
  bound : ∀ i, i < E.length → 0 ≤ R i ∧ R i ≤ 1000
  nd : ∀ loc, locB loc = true → (ordAt x loc).Nodup ∧ ordAt x loc ∈ x.order
  mem : ∀ loc, locB loc = true → ∀ a, a ∈ ordAt x loc ↔ ∃ (i : Nat) (y : Evt), E[i]? = some y ∧ a = (i : Int) ∧ y.kind = 1 ∧ y.loc = loc
  ord : ∀ l ∈ x.order, ∃ loc, locB loc = true ∧ l = ordAt x loc

theorem IsEx.ranks {E : List Evt} (hE : E.length ≤ 96) (hloc : ∀ y ∈ E, locB y.loc = true) {x : Exe} (h : IsEx E x) : Ranks E x (fun j => (srcL E x.from').getD j 0) (rankG E.length (srcL E x.from') x.order) := by
  generalize hSL : srcL E x.from' = SL
  have hlen : SL.length = E.length := by rw [← hSL]; exact srcL_len _ _
  have hget : ∀ {b : Nat} {v : Int}, SL[b]? = some v → SL.getD b 0 = v := fun hb => by rw [List.getD, hb]; rfl
  have hother : ∀ (b : Nat) (y : Evt), E[b]? = some y → y.kind ≠ 0 → SL.getD b 0 = -1 := fun b y hb hk => hget (by rw [← hSL]; exact src_other E x.from' b y hb hk)
  have hzip : ∀ (r : Nat) (y : Evt) (f : Int), ((r, y), f) ∈ (rdsX E 0).zip x.from' ↔ E[r]? = some y ∧ y.kind = 0 ∧ SL.getD r 0 = f := fun r y f => by
    rw [src_zip E x.from' 0 h.f r y f, Nat.sub_zero, hSL]
    constructor
    · rintro ⟨_, h2, h3, h4⟩; exact ⟨h2, h3, hget h4⟩
    · rintro ⟨h2, h3, h4⟩
      refine ⟨Nat.zero_le _, h2, h3, ?_⟩
      have hr : r < SL.length := by rw [hlen]; exact (List.getElem?_eq_some_iff.1 h2).1
      rw [List.getElem?_eq_getElem hr]
      have := hget (List.getElem?_eq_getElem hr)
      rw [h4] at this
      rw [this]
  have hlocs : ∀ loc, locB loc = true → ∃ m : Nat, loc = (m : Int) ∧ m < 3 ∧ x.order[m]? = some (ordAt x loc) := fun loc hl => ordAt_get h.o3 hl
  have hmem : ∀ loc, locB loc = true → ∀ a, a ∈ ordAt x loc ↔ ∃ (i : Nat) (y : Evt), E[i]? = some y ∧ a = (i : Int) ∧ y.kind = 1 ∧ y.loc = loc := fun loc hl a => by
    obtain ⟨m, rfl, _, hm⟩ := hlocs loc hl
    rw [(h.od m _ hm).2 a, wrs_iff]
  have hnd : ∀ loc, locB loc = true → (ordAt x loc).Nodup ∧ ordAt x loc ∈ x.order := fun loc hl => by
    obtain ⟨m, _, _, hm⟩ := hlocs loc hl
    exact ⟨(h.od m _ hm).1, List.mem_of_getElem? hm⟩
  have hg1w : ∀ (b : Nat) (y : Evt), E[b]? = some y → y.kind = 1 → ∃ q : Nat, (ordAt x y.loc)[q]? = some (b : Int) ∧ ordG E.length x.order (fun _ => 0) b = ((q + 1 : Nat) : Int) := fun b y hb hk => by
    have hl := hloc y (List.mem_of_getElem? hb)
    obtain ⟨m, hm1, _, hm⟩ := hlocs y.loc hl
    obtain ⟨q, hq⟩ := List.mem_iff_getElem?.1 ((hmem y.loc hl (b : Int)).2 ⟨b, y, hb, rfl, hk, rfl⟩)
    refine ⟨q, hq, ordG_at (List.getElem?_eq_some_iff.1 hb).1 hm (hnd y.loc hl).1 hq (fun k l' hkm hl' hin => ?_) _⟩
    obtain ⟨i, z, hz1, hz2, _, hz4⟩ := wrs_iff.1 (((h.od k l' hl').2 _).1 hin)
    have : i = b := by omega
    subst this
    rw [hb] at hz1
    cases hz1
    rw [hm1] at hz4
    omega
  have hg1n : ∀ (b : Nat) (y : Evt), E[b]? = some y → y.kind ≠ 1 → ordG E.length x.order (fun _ => 0) b = 0 := fun b y hb hk => by
    refine ordG_not (fun l hl hin => ?_) _
    obtain ⟨k, hk'⟩ := List.mem_iff_getElem?.1 hl
    obtain ⟨i, z, hz1, hz2, hz3, _⟩ := wrs_iff.1 (((h.od k l hk').2 _).1 hin)
    have : i = b := by omega
    subst this
    rw [hb] at hz1
    cases hz1
    exact hk hz3
  have hsrc : ∀ (r : Nat) (y : Evt), E[r]? = some y → y.kind = 0 → SL.getD r 0 = -1 ∨ ∃ (a : Nat) (z : Evt), SL.getD r 0 = (a : Int) ∧ E[a]? = some z ∧ z.kind = 1 ∧ z.loc = y.loc := fun r y hr hk => by
    rcases h.fw _ ((hzip r y _).2 ⟨hr, hk, rfl⟩) with h1 | h1
    · exact .inl h1
    · obtain ⟨i, z, z1, z2, z3, z4⟩ := wrs_iff.1 h1
      exact .inr ⟨i, z, z2, z1, z3, z4⟩
  have hneg : inN E.length (-1) = false := by unfold inN; simp
  have hH : ∀ j, j < E.length → inN E.length (SL.getD j 0) = true → inN E.length (SL.getD (SL.getD j 0).toNat 0) = false := fun j hj hin => by
    obtain ⟨y, hy⟩ : ∃ y, E[j]? = some y := ⟨E[j], List.getElem?_eq_getElem hj⟩
    by_cases hk : y.kind = 0
    · rcases hsrc j y hy hk with h1 | ⟨a, z, z1, z2, z3, _⟩
      · rw [h1, hneg] at hin; cases hin
      · rw [z1, Int.toNat_natCast, hother a z z2 (by omega)]; exact hneg
    · rw [hother j y hy hk, hneg] at hin; cases hin
  have hR : ∀ j, j < E.length → rankG E.length SL x.order j = if inN E.length (SL.getD j 0) = true then ordG E.length x.order (fun _ => 0) (SL.getD j 0).toNat else ordG E.length x.order (fun _ => 0) j := fun j hj => by
    unfold rankG
    have := rdG_all hlen hH (ordG E.length x.order (fun _ => 0)) 0 (Nat.zero_le _) _ (fun j _ => by rw [if_neg (by omega)]) j hj
    simpa using this
  have hread : ∀ (r : Nat) (y : Evt), E[r]? = some y → y.kind = 0 → (SL.getD r 0 = -1 ∧ rankG E.length SL x.order r = 0) ∨ ∃ a q : Nat, SL.getD r 0 = (a : Int) ∧ a < E.length ∧ (ordAt x y.loc)[q]? = some (a : Int) ∧ rankG E.length SL x.order r = ((q + 1 : Nat) : Int) := fun r y hr hk => by
    have hrl := (List.getElem?_eq_some_iff.1 hr).1
    rcases hsrc r y hr hk with h1 | ⟨a, z, z1, z2, z3, z4⟩
    · refine .inl ⟨h1, ?_⟩
      rw [hR r hrl, h1, if_neg (by rw [hneg]; simp)]
      exact hg1n r y hr (by omega)
    · have hal := (List.getElem?_eq_some_iff.1 z2).1
      obtain ⟨q, q1, q2⟩ := hg1w a z z2 z3
      rw [z4] at q1
      refine .inr ⟨a, q, z1, hal, q1, ?_⟩
      rw [hR r hrl, z1, if_pos (inN_yes hal), Int.toNat_natCast, q2]
  have hwrite : ∀ (b : Nat) (y : Evt), E[b]? = some y → y.kind = 1 → ∃ q : Nat, (ordAt x y.loc)[q]? = some (b : Int) ∧ rankG E.length SL x.order b = ((q + 1 : Nat) : Int) := fun b y hb hk => by
    obtain ⟨q, q1, q2⟩ := hg1w b y hb hk
    refine ⟨q, q1, ?_⟩
    rw [hR b (List.getElem?_eq_some_iff.1 hb).1, hother b y hb (by omega), if_neg (by rw [hneg]; simp), q2]
  have hol : ∀ loc, locB loc = true → (ordAt x loc).length ≤ 96 := fun loc hl => by
    obtain ⟨m, _, _, hm⟩ := hlocs loc hl
    exact h.len hE hm
  refine ⟨hother, hzip, hread, hwrite, fun i hi => ?_, hnd, hmem, fun l hl => ?_⟩
  · obtain ⟨y, hy⟩ : ∃ y, E[i]? = some y := ⟨E[i], List.getElem?_eq_getElem hi⟩
    have hyl := hol y.loc (hloc y (List.mem_of_getElem? hy))
    by_cases hk : y.kind = 0
    · rcases hread i y hy hk with ⟨_, h1⟩ | ⟨a, q, _, _, q1, q2⟩
      · rw [h1]; omega
      · have := (List.getElem?_eq_some_iff.1 q1).1
        rw [q2]; omega
    · by_cases hk1 : y.kind = 1
      · obtain ⟨q, q1, q2⟩ := hwrite i y hy hk1
        have := (List.getElem?_eq_some_iff.1 q1).1
        rw [q2]; omega
      · rw [hR i hi, hother i y hy hk, if_neg (by rw [hneg]; simp), hg1n i y hy hk1]; omega
  · obtain ⟨j, hj⟩ := List.mem_iff_getElem?.1 hl
    have hj3 : j < 3 := by have := (List.getElem?_eq_some_iff.1 hj).1; have := h.o3; omega
    refine ⟨(j : Int), by unfold locB; simp; omega, ?_⟩
    unfold ordAt
    rw [Int.toNat_natCast, List.getD, hj]; rfl

theorem exec_iff {E : List Evt} (hloc : ∀ y ∈ E, locB y.loc = true) {x : Exe} {S R : Nat → Int} (h : Ranks E x S R) {a b : Nat} (ha : a < E.length) (hb : b < E.length) :
    ((a : Int), (b : Int)) ∈ allS (exF E R) S E.length E.length ↔ ((a : Int), (b : Int)) ∈ arwL E x := by
  obtain ⟨ya, hya⟩ : ∃ y, E[a]? = some y := ⟨E[a], List.getElem?_eq_getElem ha⟩
  obtain ⟨yb, hyb⟩ : ∃ y, E[b]? = some y := ⟨E[b], List.getElem?_eq_getElem hb⟩
  have hla := hloc ya (List.mem_of_getElem? hya)
  have hlb := hloc yb (List.mem_of_getElem? hyb)
  rw [allS_mem]
  unfold arwL
  rw [List.mem_append, List.mem_flatMap, List.mem_flatMap]
  have hex : exF E R a b = (yb.kind == 1 && (sameB ya yb && decide (R a < R b))) := pairB_get hya hyb _
  constructor
  · rintro ⟨_, h1 | ⟨_, h1⟩⟩
    · by_cases hk : yb.kind = 0
      · refine .inl ⟨((b, yb), (a : Int)), (h.zip b yb _).2 ⟨hyb, hk, h1⟩, ?_⟩
        unfold arw1
        refine List.mem_append_left _ ?_
        simp only
        rw [if_neg (by first | (simp; done) | (simp; omega))]
        simp
      · have := h.other b yb hyb hk
        rw [this] at h1; omega
    · rw [hex] at h1
      unfold sameB at h1
      simp only [Bool.and_eq_true, beq_iff_eq, decide_eq_true_eq] at h1
      obtain ⟨hk, ⟨⟨hma, _⟩, hloc2⟩, hlt⟩ := h1
      obtain ⟨qb, q1, q2⟩ := h.write b yb hyb hk
      obtain ⟨hnd, hin⟩ := h.nd yb.loc hlb
      unfold memB at hma
      simp only [Bool.or_eq_true, beq_iff_eq] at hma
      rcases hma with hka | hka
      · refine .inl ⟨((a, ya), S a), (h.zip a ya _).2 ⟨hya, hka, rfl⟩, ?_⟩
        unfold arw1
        refine List.mem_append_right _ (fanL_mem.2 ⟨rfl, ?_⟩)
        simp only
        rw [hloc2]
        rcases h.read a ya hya hka with ⟨s1, _⟩ | ⟨f, qf, s1, _, s3, s4⟩
        · rw [s1]
          unfold restL
          rw [if_pos (by simp)]
          exact List.mem_of_getElem? q1
        · rw [s1]
          unfold restL
          rw [if_neg (by first | (simp; done) | (simp; omega))]
          rw [hloc2] at s3
          rw [restG_drop hnd s3, drop_mem hnd q1]
          rw [s4, q2] at hlt
          omega
      · obtain ⟨qa, p1, p2⟩ := h.write a ya hya hka
        rw [hloc2] at p1
        refine .inr ⟨ordAt x yb.loc, hin, ?_⟩
        rw [tails_iff hnd p1 q1]
        rw [p2, q2] at hlt
        omega
  · rintro (⟨⟨⟨r, y⟩, f⟩, hq, hp⟩ | ⟨l, hl, hp⟩)
    · obtain ⟨z1, z2, z3⟩ := (h.zip r y f).1 hq
      unfold arw1 at hp
      rcases List.mem_append.1 hp with hp | hp
      · simp only at hp
        split at hp
        · cases hp
        · simp at hp
          obtain ⟨e1, e2⟩ := hp
          have hbr : b = r := by omega
          subst hbr
          exact ⟨hb, .inl (by rw [z3, ← e1])⟩
      · obtain ⟨e1, e2⟩ := fanL_mem.1 hp
        simp only at e1 e2
        have har : a = r := by omega
        subst har
        rw [hya] at z1
        cases z1
        refine ⟨hb, .inr ⟨ha, ?_⟩⟩
        obtain ⟨hnd, _⟩ := h.nd ya.loc hla
        have hbl := restL_mem e2
        obtain ⟨i, z, i1, i2, i3, i4⟩ := (h.mem ya.loc hla _).1 hbl
        have hib : i = b := by omega
        subst hib
        rw [hyb] at i1
        cases i1
        obtain ⟨qb, q1, q2⟩ := h.write i yb hyb i3
        rw [hex]
        unfold sameB memB
        rw [i3, z2, i4]
        simp only [Bool.and_eq_true, decide_eq_true_eq]
        refine ⟨by simp, ⟨by simp, ?_⟩⟩
        rw [i4] at q1
        rcases h.read a ya hya z2 with ⟨s1, s2⟩ | ⟨g, qf, s1, _, s3, s4⟩
        · rw [s2, q2]; omega
        · rw [z3] at s1
          rw [s1] at e2
          unfold restL at e2
          rw [if_neg (by first | (simp; done) | (simp; omega)), restG_drop hnd s3, drop_mem hnd q1] at e2
          rw [s4, q2]
          omega
    · obtain ⟨loc, hl1, rfl⟩ := h.ord l hl
      obtain ⟨hnd, _⟩ := h.nd loc hl1
      obtain ⟨m1, m2⟩ := tailsL_mem hp
      obtain ⟨i, z, i1, i2, i3, i4⟩ := (h.mem loc hl1 _).1 m1
      obtain ⟨j, z', j1, j2, j3, j4⟩ := (h.mem loc hl1 _).1 m2
      simp only at i2 j2
      have hia : i = a := by omega
      have hjb : j = b := by omega
      subst hia hjb
      rw [hya] at i1
      cases i1
      rw [hyb] at j1
      cases j1
      obtain ⟨qa, p1, p2⟩ := h.write i ya hya i3
      obtain ⟨qb, q1, q2⟩ := h.write j yb hyb j3
      rw [i4] at p1
      rw [j4] at q1
      have hlt := (tails_iff hnd p1 q1).1 hp
      refine ⟨hb, .inr ⟨ha, ?_⟩⟩
      rw [hex]
      unfold sameB memB
      rw [i3, j3, i4, j4]
      simp only [Bool.and_eq_true, decide_eq_true_eq]
      refine ⟨by simp, ⟨by simp, ?_⟩⟩
      rw [p2, q2]; omega

end Go.Proofs.YtomijmikkbhgmaaGreat
