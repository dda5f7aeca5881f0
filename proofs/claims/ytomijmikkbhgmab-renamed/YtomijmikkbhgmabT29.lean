import Derived.Test.YtomijmikkbhgmabT28
namespace Go.Proofs.Ytomijmikkbhgmab

theorem ordG_not {n : Nat} {L : List (List Int)} {a : Nat} (h : ∀ l ∈ L, (a : Int) ∉ l) (g : Nat → Int) : ordG n L g a = g a := by
  induction L generalizing g with
  | nil => rfl
  | cons l L ih =>
    rw [ordG, ih (fun m hm => h m (List.mem_cons_of_mem _ hm)), wrG_not (h l (List.mem_cons_self ..))]

theorem ordG_at {n : Nat} {L : List (List Int)} {a j q : Nat} {l : List Int} (ha : a < n) (hj : L[j]? = some l) (hnd : l.Nodup) (hq : l[q]? = some (a : Int)) (ho : ∀ k l', k ≠ j → L[k]? = some l' → (a : Int) ∉ l') (g : Nat → Int) : ordG n L g a = ((q + 1 : Nat) : Int) := by
  induction L generalizing j g with
  | nil => simp at hj
  | cons m L ih =>
    rw [ordG]
    cases j with
    | zero =>
      simp at hj
      subst hj
      rw [ordG_not (fun l' hl' => ?_), wrG_at hnd ha hq]
      · omega
      · obtain ⟨k, hk⟩ := List.mem_iff_getElem?.1 hl'
        exact ho (k + 1) l' (by omega) (by simpa using hk)
    | succ j => exact ih (by simpa using hj) (fun k l' hk hl' => ho (k + 1) l' (by omega) (by simpa using hl')) _

theorem restG_drop {l : List Int} (hnd : l.Nodup) {q : Nat} {f : Int} (h : l[q]? = some f) : restG l f = l.drop (q + 1) := by
  induction l generalizing q with
  | nil => simp at h
  | cons x l ih =>
    obtain ⟨h1, h2⟩ := List.nodup_cons.1 hnd
    unfold restG
    cases q with
    | zero => simp at h; subst h; rw [if_pos (by simp)]; rfl
    | succ q =>
      have h' : l[q]? = some f := by simpa using h
      have hne : x ≠ f := fun e => h1 (by rw [e]; exact List.mem_of_getElem? h')
      rw [if_neg (by simpa using hne), ih h2 h']
      rfl

theorem pos_eq {l : List Int} (hnd : l.Nodup) {p q : Nat} {a : Int} (hp : l[p]? = some a) (hq : l[q]? = some a) : p = q := by
  obtain ⟨h1, e1⟩ := List.getElem?_eq_some_iff.1 hp
  obtain ⟨h2, e2⟩ := List.getElem?_eq_some_iff.1 hq
  rcases Nat.lt_trichotomy p q with h | h | h
  · exact absurd (e1.trans e2.symm) (List.pairwise_iff_getElem.1 hnd p q h1 h2 h)
  · exact h
  · exact absurd (e2.trans e1.symm) (List.pairwise_iff_getElem.1 hnd q p h2 h1 h)

theorem drop_mem {l : List Int} (hnd : l.Nodup) {k q : Nat} {b : Int} (hq : l[q]? = some b) : b ∈ l.drop k ↔ k ≤ q := by
  constructor
  · intro h
    obtain ⟨i, hi⟩ := List.mem_iff_getElem?.1 h
    rw [List.getElem?_drop] at hi
    have := pos_eq hnd hi hq
    omega
  · intro h
    refine List.mem_iff_getElem?.2 ⟨q - k, ?_⟩
    rw [List.getElem?_drop, show k + (q - k) = q by omega]; exact hq

theorem tails_iff {l : List Int} (hnd : l.Nodup) {p q : Nat} {a b : Int} (hp : l[p]? = some a) (hq : l[q]? = some b) : (a, b) ∈ tailsL l ↔ p < q := by
  induction l generalizing p q with
  | nil => simp at hp
  | cons c l ih =>
    obtain ⟨h1, h2⟩ := List.nodup_cons.1 hnd
    unfold tailsL
    rw [List.mem_append, fanL_mem]
    cases p with
    | zero =>
      have hac : c = a := by simpa using hp
      subst hac
      cases q with
      | zero =>
        have hbc : c = b := by simpa using hq
        subst hbc
        constructor
        · rintro (⟨_, h⟩ | h)
          · exact absurd h h1
          · exact absurd (tailsL_mem h).1 h1
        · intro h; omega
      | succ q =>
        have hb : l[q]? = some b := by simpa using hq
        exact ⟨fun _ => by omega, fun _ => .inl ⟨rfl, List.mem_of_getElem? hb⟩⟩
    | succ p =>
      have ha : l[p]? = some a := by simpa using hp
      have hac : a ≠ c := fun e => h1 (by rw [← e]; exact List.mem_of_getElem? ha)
      cases q with
      | zero =>
        have hbc : c = b := by simpa using hq
        subst hbc
        constructor
        · rintro (⟨h, _⟩ | h)
          · exact absurd h hac
          · exact absurd (tailsL_mem h).2 h1
        · intro h; omega
      | succ q =>
        have hb : l[q]? = some b := by simpa using hq
        constructor
        · rintro (⟨h, _⟩ | h)
          · exact absurd h hac
          · have := (ih h2 ha hb).1 h; omega
        · intro h
          exact .inr ((ih h2 ha hb).2 (by omega))

/-- What the sources and the ranks of an execution are. -/
structure Ranks (E : List Evt) (x : Exe) (S R : Nat → Int) : Prop where
  other : ∀ (b : Nat) (y : Evt), E[b]? = some y → y.kind ≠ 0 → S b = -1
  zip : ∀ (r : Nat) (y : Evt) (f : Int), ((r, y), f) ∈ (rdsX E 0).zip x.from' ↔ E[r]? = some y ∧ y.kind = 0 ∧ S r = f
  read : ∀ (r : Nat) (y : Evt), E[r]? = some y → y.kind = 0 → (S r = -1 ∧ R r = 0) ∨ ∃ a q : Nat, S r = (a : Int) ∧ a < E.length ∧ (ordAt x y.loc)[q]? = some (a : Int) ∧ R r = ((q + 1 : Nat) : Int)
  write : ∀ (b : Nat) (y : Evt), E[b]? = some y → y.kind = 1 → ∃ q : Nat, (ordAt x y.loc)[q]? = some (b : Int) ∧ R b = ((q + 1 : Nat) : Int)
  bound : ∀ i, i < E.length → 0 ≤ R i ∧ R i ≤ 1000
  nd : ∀ loc, locB loc = true → (ordAt x loc).Nodup ∧ ordAt x loc ∈ x.order
  mem : ∀ loc, locB loc = true → ∀ a, a ∈ ordAt x loc ↔ ∃ (i : Nat) (y : Evt), E[i]? = some y ∧ a = (i : Int) ∧ y.kind = 1 ∧ y.loc = loc
  ord : ∀ l ∈ x.order, ∃ loc, locB loc = true ∧ l = ordAt x loc

theorem IsEx.ranks {E : List Evt} (hE : E.length ≤ 96) (hloc : ∀ y ∈ E, locB y.loc = true) {x : Exe} (h : IsEx E x) : Ranks E x (fun j => (srcL E x.from').getD j 0) (rankG E.length (srcL E x.from') x.order) := by
  generalize hSL : srcL E x.from' = SL
  have hlen : SL.length = E.length := by rw [← hSL]; exact srcL_len _ _
  have hget : ∀ {b : Nat} {v : Int}, SL[b]? = some v → SL.getD b 0 = v := fun hb => by rw [List.getD, hb]; rfl
  have hother : ∀ (b : Nat) (y : Evt), E[b]? = some y → y.kind ≠ 0 → SL.getD b 0 = -1 := fun b y hb hk => hget (by rw [← hSL]; exact src_other E x.from' b y hb hk)
  have hzip : ∀ (r : Nat) (y : Evt) (f : Int), ((r, y), f) ∈ (rdsX E 0).zip x.from' ↔ E[r]? = some y ∧ y.kind = 0 ∧ SL.getD r 0 = f := fun r y f => by
    rw [src_zip E x.from' 0 h.f r y f, Nat.sub_zero, hSL]
    constructor
    · rintro ⟨_, h2, h3, h4⟩; exact ⟨h2, h3, hget h4⟩
    · rintro ⟨h2, h3, h4⟩
      refine ⟨Nat.zero_le _, h2, h3, ?_⟩
      have hr : r < SL.length := by rw [hlen]; exact (List.getElem?_eq_some_iff.1 h2).1
      rw [List.getElem?_eq_getElem hr]
      have := hget (List.getElem?_eq_getElem hr)
      rw [h4] at this
      rw [this]
  have hlocs : ∀ loc, locB loc = true → ∃ m : Nat, loc = (m : Int) ∧ m < 3 ∧ x.order[m]? = some (ordAt x loc) := fun loc hl => ordAt_get h.o3 hl
  have hmem : ∀ loc, locB loc = true → ∀ a, a ∈ ordAt x loc ↔ ∃ (i : Nat) (y : Evt), E[i]? = some y ∧ a = (i : Int) ∧ y.kind = 1 ∧ y.loc = loc := fun loc hl a => by
    obtain ⟨m, rfl, _, hm⟩ := hlocs loc hl
    rw [(h.od m _ hm).2 a, wrs_iff]
  have hnd : ∀ loc, locB loc = true → (ordAt x loc).Nodup ∧ ordAt x loc ∈ x.order := fun loc hl => by
    obtain ⟨m, _, _, hm⟩ := hlocs loc hl
    exact ⟨(h.od m _ hm).1, List.mem_of_getElem? hm⟩
  have hg1w : ∀ (b : Nat) (y : Evt), E[b]? = some y → y.kind = 1 → ∃ q : Nat, (ordAt x y.loc)[q]? = some (b : Int) ∧ ordG E.length x.order (fun _ => 0) b = ((q + 1 : Nat) : Int) := fun b y hb hk => by
    have hl := hloc y (List.mem_of_getElem? hb)
    obtain ⟨m, hm1, _, hm⟩ := hlocs y.loc hl
    obtain ⟨q, hq⟩ := List.mem_iff_getElem?.1 ((hmem y.loc hl (b : Int)).2 ⟨b, y, hb, rfl, hk, rfl⟩)
    refine ⟨q, hq, ordG_at (List.getElem?_eq_some_iff.1 hb).1 hm (hnd y.loc hl).1 hq (fun k l' hkm hl' hin => ?_) _⟩
    obtain ⟨i, z, hz1, hz2, _, hz4⟩ := wrs_iff.1 (((h.od k l' hl').2 _).1 hin)
    have : i = b := by omega
    subst this
    rw [hb] at hz1
    cases hz1
    rw [hm1] at hz4
    omega
  have hg1n : ∀ (b : Nat) (y : Evt), E[b]? = some y → y.kind ≠ 1 → ordG E.length x.order (fun _ => 0) b = 0 := fun b y hb hk => by
    refine ordG_not (fun l hl hin => ?_) _
    obtain ⟨k, hk'⟩ := List.mem_iff_getElem?.1 hl
    obtain ⟨i, z, hz1, hz2, hz3, _⟩ := wrs_iff.1 (((h.od k l hk').2 _).1 hin)
    have : i = b := by omega
    subst this
    rw [hb] at hz1
    cases hz1
    exact hk hz3
  have hsrc : ∀ (r : Nat) (y : Evt), E[r]? = some y → y.kind = 0 → SL.getD r 0 = -1 ∨ ∃ (a : Nat) (z : Evt), SL.getD r 0 = (a : Int) ∧ E[a]? = some z ∧ z.kind = 1 ∧ z.loc = y.loc := fun r y hr hk => by
    rcases h.fw _ ((hzip r y _).2 ⟨hr, hk, rfl⟩) with h1 | h1
    · exact .inl h1
    · obtain ⟨i, z, z1, z2, z3, z4⟩ := wrs_iff.1 h1
      exact .inr ⟨i, z, z2, z1, z3, z4⟩
  have hneg : inN E.length (-1) = false := by unfold inN; simp
  have hH : ∀ j, j < E.length → inN E.length (SL.getD j 0) = true → inN E.length (SL.getD (SL.getD j 0).toNat 0) = false := fun j hj hin => by
    obtain ⟨y, hy⟩ : ∃ y, E[j]? = some y := ⟨E[j], List.getElem?_eq_getElem hj⟩
    by_cases hk : y.kind = 0
    · rcases hsrc j y hy hk with h1 | ⟨a, z, z1, z2, z3, _⟩
      · rw [h1, hneg] at hin; cases hin
      · rw [z1, Int.toNat_natCast, hother a z z2 (by omega)]; exact hneg
    · rw [hother j y hy hk, hneg] at hin; cases hin
  have hR : ∀ j, j < E.length → rankG E.length SL x.order j = if inN E.length (SL.getD j 0) = true then ordG E.length x.order (fun _ => 0) (SL.getD j 0).toNat else ordG E.length x.order (fun _ => 0) j := fun j hj => by
    unfold rankG
    have := rdG_all hlen hH (ordG E.length x.order (fun _ => 0)) 0 (Nat.zero_le _) _ (fun j _ => by rw [if_neg (by omega)]) j hj
    simpa using this
  have hread : ∀ (r : Nat) (y : Evt), E[r]? = some y → y.kind = 0 → (SL.getD r 0 = -1 ∧ rankG E.length SL x.order r = 0) ∨ ∃ a q : Nat, SL.getD r 0 = (a : Int) ∧ a < E.length ∧ (ordAt x y.loc)[q]? = some (a : Int) ∧ rankG E.length SL x.order r = ((q + 1 : Nat) : Int) := fun r y hr hk => by
    have hrl := (List.getElem?_eq_some_iff.1 hr).1
    rcases hsrc r y hr hk with h1 | ⟨a, z, z1, z2, z3, z4⟩
    · refine .inl ⟨h1, ?_⟩
      rw [hR r hrl, h1, if_neg (by rw [hneg]; simp)]
      exact hg1n r y hr (by omega)
    · have hal := (List.getElem?_eq_some_iff.1 z2).1
      obtain ⟨q, q1, q2⟩ := hg1w a z z2 z3
      rw [z4] at q1
      refine .inr ⟨a, q, z1, hal, q1, ?_⟩
      rw [hR r hrl, z1, if_pos (inN_yes hal), Int.toNat_natCast, q2]
  have hwrite : ∀ (b : Nat) (y : Evt), E[b]? = some y → y.kind = 1 → ∃ q : Nat, (ordAt x y.loc)[q]? = some (b : Int) ∧ rankG E.length SL x.order b = ((q + 1 : Nat) : Int) := fun b y hb hk => by
    obtain ⟨q, q1, q2⟩ := hg1w b y hb hk
    refine ⟨q, q1, ?_⟩
    rw [hR b (List.getElem?_eq_some_iff.1 hb).1, hother b y hb (by omega), if_neg (by rw [hneg]; simp), q2]
  have hol : ∀ loc, locB loc = true → (ordAt x loc).length ≤ 96 := fun loc hl => by
    obtain ⟨m, _, _, hm⟩ := hlocs loc hl
    exact h.len hE hm
  refine ⟨hother, hzip, hread, hwrite, fun i hi => ?_, hnd, hmem, fun l hl => ?_⟩
  · obtain ⟨y, hy⟩ : ∃ y, E[i]? = some y := ⟨E[i], List.getElem?_eq_getElem hi⟩
    have hyl := hol y.loc (hloc y (List.mem_of_getElem? hy))
    by_cases hk : y.kind = 0
    · rcases hread i y hy hk with ⟨_, h1⟩ | ⟨a, q, _, _, q1, q2⟩
      · rw [h1]; omega
      · have := (List.getElem?_eq_some_iff.1 q1).1
        rw [q2]; omega
    · by_cases hk1 : y.kind = 1
      · obtain ⟨q, q1, q2⟩ := hwrite i y hy hk1
        have := (List.getElem?_eq_some_iff.1 q1).1
        rw [q2]; omega
      · rw [hR i hi, hother i y hy hk, if_neg (by rw [hneg]; simp), hg1n i y hy hk1]; omega
  · obtain ⟨j, hj⟩ := List.mem_iff_getElem?.1 hl
    have hj3 : j < 3 := by have := (List.getElem?_eq_some_iff.1 hj).1; have := h.o3; omega
    refine ⟨(j : Int), by unfold locB; simp; omega, ?_⟩
    unfold ordAt
    rw [Int.toNat_natCast, List.getD, hj]; rfl

theorem exec_iff {E : List Evt} (hloc : ∀ y ∈ E, locB y.loc = true) {x : Exe} {S R : Nat → Int} (h : Ranks E x S R) {a b : Nat} (ha : a < E.length) (hb : b < E.length) :
    ((a : Int), (b : Int)) ∈ allS (exF E R) S E.length E.length ↔ ((a : Int), (b : Int)) ∈ arwL E x := by
  obtain ⟨ya, hya⟩ : ∃ y, E[a]? = some y := ⟨E[a], List.getElem?_eq_getElem ha⟩
  obtain ⟨yb, hyb⟩ : ∃ y, E[b]? = some y := ⟨E[b], List.getElem?_eq_getElem hb⟩
  have hla := hloc ya (List.mem_of_getElem? hya)
  have hlb := hloc yb (List.mem_of_getElem? hyb)
  rw [allS_mem]
  unfold arwL
  rw [List.mem_append, List.mem_flatMap, List.mem_flatMap]
  have hex : exF E R a b = (yb.kind == 1 && (sameB ya yb && decide (R a < R b))) := pairB_get hya hyb _
  constructor
  · rintro ⟨_, h1 | ⟨_, h1⟩⟩
    · by_cases hk : yb.kind = 0
      · refine .inl ⟨((b, yb), (a : Int)), (h.zip b yb _).2 ⟨hyb, hk, h1⟩, ?_⟩
        unfold arw1
        refine List.mem_append_left _ ?_
        simp only
        rw [if_neg (by first | (simp; done) | (simp; omega))]
        simp
      · have := h.other b yb hyb hk
        rw [this] at h1; omega
    · rw [hex] at h1
      unfold sameB at h1
      simp only [Bool.and_eq_true, beq_iff_eq, decide_eq_true_eq] at h1
      obtain ⟨hk, ⟨⟨hma, _⟩, hloc2⟩, hlt⟩ := h1
      obtain ⟨qb, q1, q2⟩ := h.write b yb hyb hk
      obtain ⟨hnd, hin⟩ := h.nd yb.loc hlb
      unfold memB at hma
      simp only [Bool.or_eq_true, beq_iff_eq] at hma
      rcases hma with hka | hka
      · refine .inl ⟨((a, ya), S a), (h.zip a ya _).2 ⟨hya, hka, rfl⟩, ?_⟩
        unfold arw1
        refine List.mem_append_right _ (fanL_mem.2 ⟨rfl, ?_⟩)
        simp only
        rw [hloc2]
        rcases h.read a ya hya hka with ⟨s1, _⟩ | ⟨f, qf, s1, _, s3, s4⟩
        · rw [s1]
          unfold restL
          rw [if_pos (by simp)]
          exact List.mem_of_getElem? q1
        · rw [s1]
          unfold restL
          rw [if_neg (by first | (simp; done) | (simp; omega))]
          rw [hloc2] at s3
          rw [restG_drop hnd s3, drop_mem hnd q1]
          rw [s4, q2] at hlt
          omega
      · obtain ⟨qa, p1, p2⟩ := h.write a ya hya hka
        rw [hloc2] at p1
        refine .inr ⟨ordAt x yb.loc, hin, ?_⟩
        rw [tails_iff hnd p1 q1]
        rw [p2, q2] at hlt
        omega
  · rintro (⟨⟨⟨r, y⟩, f⟩, hq, hp⟩ | ⟨l, hl, hp⟩)
    · obtain ⟨z1, z2, z3⟩ := (h.zip r y f).1 hq
      unfold arw1 at hp
      rcases List.mem_append.1 hp with hp | hp
      · simp only at hp
        split at hp
        · cases hp
        · simp at hp
          obtain ⟨e1, e2⟩ := hp
          have hbr : b = r := by omega
          subst hbr
          exact ⟨hb, .inl (by rw [z3, ← e1])⟩
      · obtain ⟨e1, e2⟩ := fanL_mem.1 hp
        simp only at e1 e2
        have har : a = r := by omega
        subst har
        rw [hya] at z1
        cases z1
        refine ⟨hb, .inr ⟨ha, ?_⟩⟩
        obtain ⟨hnd, _⟩ := h.nd ya.loc hla
        have hbl := restL_mem e2
        obtain ⟨i, z, i1, i2, i3, i4⟩ := (h.mem ya.loc hla _).1 hbl
        have hib : i = b := by omega
        subst hib
        rw [hyb] at i1
        cases i1
        obtain ⟨qb, q1, q2⟩ := h.write i yb hyb i3
        rw [hex]
        unfold sameB memB
        rw [i3, z2, i4]
        simp only [Bool.and_eq_true, decide_eq_true_eq]
        refine ⟨by simp, ⟨by simp, ?_⟩⟩
        rw [i4] at q1
        rcases h.read a ya hya z2 with ⟨s1, s2⟩ | ⟨g, qf, s1, _, s3, s4⟩
        · rw [s2, q2]; omega
        · rw [z3] at s1
          rw [s1] at e2
          unfold restL at e2
          rw [if_neg (by first | (simp; done) | (simp; omega)), restG_drop hnd s3, drop_mem hnd q1] at e2
          rw [s4, q2]
          omega
    · obtain ⟨loc, hl1, rfl⟩ := h.ord l hl
      obtain ⟨hnd, _⟩ := h.nd loc hl1
      obtain ⟨m1, m2⟩ := tailsL_mem hp
      obtain ⟨i, z, i1, i2, i3, i4⟩ := (h.mem loc hl1 _).1 m1
      obtain ⟨j, z', j1, j2, j3, j4⟩ := (h.mem loc hl1 _).1 m2
      simp only at i2 j2
      have hia : i = a := by omega
      have hjb : j = b := by omega
      subst hia hjb
      rw [hya] at i1
      cases i1
      rw [hyb] at j1
      cases j1
      obtain ⟨qa, p1, p2⟩ := h.write i ya hya i3
      obtain ⟨qb, q1, q2⟩ := h.write j yb hyb j3
      rw [i4] at p1
      rw [j4] at q1
      have hlt := (tails_iff hnd p1 q1).1 hp
      refine ⟨hb, .inr ⟨ha, ?_⟩⟩
      rw [hex]
      unfold sameB memB
      rw [i3, j3, i4, j4]
      simp only [Bool.and_eq_true, decide_eq_true_eq]
      refine ⟨by simp, ⟨by simp, ?_⟩⟩
      rw [p2, q2]; omega

end Go.Proofs.Ytomijmikkbhgmab

namespace Go.Proofs.Ytomijmikkbhgmab

theorem coh_same : cohP = cohQ := by
  funext i j a b
  unfold cohP cohQ sameB
  cases memB a.kind <;> cases memB b.kind <;> cases (a.thread == b.thread) <;> cases (a.loc == b.loc) <;> rfl

theorem mark_same (a b : Evt) : markB a b = (modB a b || mrkB a b) := by
  unfold markB modB mrkB
  generalize (a.kind == 2) = p1
  generalize (a.kind == 4) = p2
  generalize (a.kind == 5) = p3
  generalize (b.kind == 3) = p4
  generalize (b.kind == 4) = p5
  generalize (b.kind == 5) = p6
  generalize (a.kind == 0 && a.ins.mode == 1) = p7
  generalize (b.kind == 1 && b.ins.mode == 2) = p8
  cases p1 <;> cases p2 <;> cases p3 <;> cases p4 <;> cases p5 <;> cases p6 <;> cases p7 <;> cases p8 <;> rfl

theorem last_same {T : List (List Ins)} {E : List Evt} (hE : E = evsT T 0) {i j : Nat} {a b : Evt} (hij : i < j) (hi : E[i]? = some a) (hj : E[j]? = some b) : lastB E i j b = (swapB a b || cpyB E i j b) := by
  have hsw : SwOk E := by rw [hE]; exact swOk_T T 0
  have hs : swapB a b = true → b.ins.op = 3 ∧ b.kind = 1 ∧ j = i + 1 := by
    intro h
    unfold swapB at h
    simp only [Bool.and_eq_true, beq_iff_eq] at h
    obtain ⟨⟨⟨h1, h2⟩, h3⟩, h4⟩ := h
    obtain ⟨k1, k2, k3, _⟩ := hsw.s3 i j a b hij hi hj h1 h2 h3 h4
    exact ⟨by rw [k3]; exact k2, h4, k1⟩
  unfold lastB cpyB
  by_cases h1 : b.ins.op = 1
  · have hk : b.kind = 1 := copy_kind (T := T) (by rw [← hE]; exact List.mem_of_getElem? hj) h1
    have hns : swapB a b = false := by
      cases hh : swapB a b
      · rfl
      · have := (hs hh).1; omega
    rw [hns, h1, hk]
    simp only [beq_self_eq_true, Bool.true_and, Bool.false_or, if_true]
    rw [Bool.eq_iff_iff]
    simp only [beq_iff_eq]
    exact eq_comm
  · have hn1 : (b.ins.op == 1) = false := by simpa using h1
    rw [hn1]
    simp only [Bool.false_and, Bool.or_false, Bool.false_eq_true, if_false]
    rw [Bool.eq_iff_iff]
    simp only [Bool.and_eq_true, beq_iff_eq]
    constructor
    · rintro ⟨h2, h3, h4⟩
      obtain ⟨r, r1, r2⟩ := hsw.s2 j b hj h2 h3
      have hri : r = i := by omega
      subst hri
      rw [hi] at r2
      cases r2
      unfold swapB
      simp [h2]
    · intro h
      obtain ⟨k1, k2, k3⟩ := hs h
      exact ⟨k2, k1, by omega⟩

theorem kept_same {T : List (List Ins)} {E : List Evt} (hE : E = evsT T 0) {i j : Nat} (hij : i < j) : pairB E (keepP T E) i j = pairB E (keepQ T E) i j := by
  unfold pairB
  cases hi : E[i]? with
  | none => rfl
  | some a =>
    cases hj : E[j]? with
    | none => rfl
    | some b =>
      show keepP T E i j a b = keepQ T E i j a b
      unfold keepP keepQ keepB kepB
      rw [mark_same, last_same hE hij hi hj]
      generalize fenB (T.getD a.thread.toNat []) a b = p1
      generalize modB a b = p2
      generalize mrkB a b = p3
      generalize swapB a b = p4
      generalize cpyB E i j b = p5
      cases p1 <;> cases p2 <;> cases p3 <;> cases p4 <;> cases p5 <;> rfl

theorem torn_same {T : List (List Ins)} {E : List Evt} (hE : E = evsT T 0) (hloc : ∀ y ∈ E, locB y.loc = true) {x : Exe} {S R : Nat → Int} (h : Ranks E x S R) : tornB E x = tornQ (torQ E R) E.length := by
  have hsw : SwOk E := by rw [hE]; exact swOk_T T 0
  -- a Swap: its Read r, its Write r + 1
  have key : ∀ (r : Nat) (y z : Evt), E[r]? = some y → y.kind = 0 → E[r + 1]? = some z → z.kind = 1 → z.loc = y.loc → (headNe (restL (ordAt x y.loc) (S r)) ((r : Int) + 1) = true ↔ R (r + 1) ≠ R r + 1) := by
    intro r y z hr hk hz hzk hzl
    have hl := hloc y (List.mem_of_getElem? hr)
    obtain ⟨hnd, _⟩ := h.nd y.loc hl
    obtain ⟨q, q1, q2⟩ := h.write (r + 1) z hz hzk
    rw [hzl] at q1
    have hcast : ((r : Int) + 1) = ((r + 1 : Nat) : Int) := by omega
    rw [hcast]
    have hdrop : ∀ k : Nat, headNe ((ordAt x y.loc).drop k) ((r + 1 : Nat) : Int) = true ↔ q ≠ k := by
      intro k
      by_cases hkl : k < (ordAt x y.loc).length
      · rw [List.drop_eq_getElem_cons hkl]
        show ((ordAt x y.loc)[k] != ((r + 1 : Nat) : Int)) = true ↔ q ≠ k
        rw [bne_iff_ne]
        constructor
        · intro hne e
          subst e
          rw [List.getElem?_eq_getElem hkl] at q1
          exact hne (Option.some.inj q1)
        · intro hne e
          exact hne (pos_eq hnd q1 (by rw [List.getElem?_eq_getElem hkl, e]))
      · rw [List.drop_eq_nil_of_le (by omega)]
        have := (List.getElem?_eq_some_iff.1 q1).1
        exact ⟨fun _ => by omega, fun _ => rfl⟩
    rcases h.read r y hr hk with ⟨s1, s2⟩ | ⟨f, qf, s1, _, s3, s4⟩
    · rw [s1]
      unfold restL
      rw [if_pos (by simp)]
      have h0 := hdrop 0
      rw [List.drop_zero] at h0
      rw [h0, q2, s2]
      constructor <;> intro h <;> omega
    · rw [s1]
      unfold restL
      rw [if_neg (by first | (simp; done) | (simp; omega)), restG_drop hnd s3, hdrop (qf + 1), q2, s4]
      constructor <;> intro h <;> omega
  rw [Bool.eq_iff_iff]
  unfold tornB tornQ
  rw [List.any_eq_true, List.any_eq_true]
  constructor
  · rintro ⟨⟨⟨r, y⟩, f⟩, hq, ht⟩
    obtain ⟨z1, z2, z3⟩ := (h.zip r y f).1 hq
    unfold torn1 at ht
    simp only [Bool.and_eq_true, beq_iff_eq] at ht
    obtain ⟨ho, hh⟩ := ht
    have hs1 := hsw.s1 r y z1 z2 ho
    rw [← z3] at hh
    have hne := (key r y _ z1 z2 hs1 rfl rfl).1 hh
    refine ⟨r + 1, by rw [List.mem_range]; exact (List.getElem?_eq_some_iff.1 hs1).1, ?_⟩
    rw [List.any_eq_true]
    refine ⟨r, by simp, ?_⟩
    have : torQ E R r (r + 1) = (swapB y { y with kind := 1 } && (R (r + 1) != R r + 1)) := pairB_get z1 hs1 _
    rw [this]
    unfold swapB
    simp [z2]
    exact hne
  · rintro ⟨j, hj, ht⟩
    rw [List.any_eq_true] at ht
    obtain ⟨i, hi, ht⟩ := ht
    have hjl : j < E.length := by simpa using hj
    have hij : i < j := by simpa using hi
    obtain ⟨a, ha⟩ : ∃ y, E[i]? = some y := ⟨E[i], List.getElem?_eq_getElem (by omega)⟩
    obtain ⟨b, hb⟩ : ∃ y, E[j]? = some y := ⟨E[j], List.getElem?_eq_getElem hjl⟩
    have hq : torQ E R i j = (swapB a b && (R j != R i + 1)) := pairB_get ha hb _
    rw [hq] at ht
    unfold swapB at ht
    simp only [Bool.and_eq_true, beq_iff_eq, bne_iff_ne] at ht
    obtain ⟨⟨⟨⟨h1, h2⟩, h3⟩, h4⟩, h5⟩ := ht
    obtain ⟨k1, k2, k3, k4⟩ := hsw.s3 i j a b hij ha hb h1 h2 h3 h4
    subst k1
    refine ⟨((i, a), S i), (h.zip i a _).2 ⟨ha, h3, rfl⟩, ?_⟩
    unfold torn1
    simp only [Bool.and_eq_true, beq_iff_eq]
    exact ⟨k2, (key i a b ha h3 hb h4 k4).2 h5⟩

theorem JudIs.congr {P P' : Prop} {t t' : Bool} {Q Q' S : Prop} {r : Int} (h : JudIs P t Q S r) (hP : P ↔ P') (ht : t = t') (hQ : Q ↔ Q') : JudIs P' t' Q' S r := by
  have e1 : P = P' := propext hP
  have e2 : Q = Q' := propext hQ
  subst e1 e2 ht
  exact h

/-- What both judge by. -/
theorem judge_same {T : List (List Ins)} {E : List Evt} (hE : E = evsT T 0) (hl : E.length ≤ 96) (hloc : ∀ y ∈ E, locB y.loc = true) {x : Exe} (hx : IsEx E x) :
    (Cyc E.length (cohB E x) ↔ Cyc E.length (cohA E x)) ∧ tornQ (torQ E (rankG E.length (srcL E x.from') x.order)) E.length = tornB E x ∧ (Cyc E.length (kepQ T E x) ↔ Cyc E.length (kepA T E x)) := by
  have hr := hx.ranks hl hloc
  refine ⟨Cyc.iff fun a b ha hb => ?_, (torn_same hE hloc hr).symm, Cyc.iff fun a b ha hb => ?_⟩
  · unfold cohB cohA exQ
    rw [List.mem_append, List.mem_append, exec_iff hloc hr ha hb, allU_mem, allD_mem, coh_same]
  · unfold kepQ kepA exQ
    rw [List.mem_append, List.mem_append, exec_iff hloc hr ha hb, allU_mem, allD_mem]
    constructor
    · rintro (h | ⟨h1, h2, h3⟩)
      · exact .inl h
      · exact .inr ⟨h1, h2, by rw [kept_same hE h2]; exact h3⟩
    · rintro (h | ⟨h1, h2, h3⟩)
      · exact .inl h
      · exact .inr ⟨h1, h2, by rw [← kept_same hE h2]; exact h3⟩

/-- No sections, or no Syncs. -/
def openB (T : List (List Ins)) : Bool := cntO 5 T == 0 || cntO 7 T == 0

theorem thoL_len (kd : Int) (E : List Evt) (i : Nat) : (thoL kd E i).length = cntK kd E := by
  induction E generalizing i with
  | nil => rfl
  | cons x E ih =>
    unfold cntK at ih ⊢
    cases h : x.kind == kd
    · rw [thoL_mis h, ih, List.filter_cons, h]; rfl
    · rw [thoL_hit h, List.length_cons, ih, List.filter_cons, h]; rfl

theorem open_none {T : List (List Ins)} (h : openB T = true) : (thoL 2 (evsT T 0) 0).length = 0 ∨ (thoL 4 (evsT T 0) 0).length = 0 := by
  unfold openB at h
  rw [thoL_len, thoL_len, cntK_evsT 5 2 kinds_enter, cntK_evsT 7 4 kinds_sync]
  simpa using h

end Go.Proofs.Ytomijmikkbhgmab
