/- Each candidate is an execution, and goes ahead of the next one. -/
import Derived.Test.YtbmlmplbhgahpaaMath4
namespace Go.Proofs.Ytbmlmplbhgahpaa

/-- Does a list go ahead of another one, number by number? -/
def lx : List Int → List Int → Bool
  | a :: l, b :: m => if a == b then lx l m else decide (a < b)
  | _, _ => false

theorem lx_app {a b : List Int} (h : lx a b = true) (s t : List Int) : lx (a ++ s) (b ++ t) = true := by
  induction a generalizing b with
  | nil => simp [lx] at h
  | cons x a ih =>
    cases b with
    | nil => simp [lx] at h
    | cons y b =>
      rw [List.cons_append, List.cons_append]
      unfold lx at h ⊢
      split
      · rename_i e; rw [if_pos e] at h; exact ih h
      · rename_i e; rw [if_neg e] at h; exact h

theorem lx_same (a s t : List Int) : lx (a ++ s) (a ++ t) = lx s t := by
  induction a with
  | nil => rfl
  | cons x a ih => rw [List.cons_append, List.cons_append, lx, if_pos (by simp)]; exact ih

theorem lx_cons {a b : Int} (h : a < b) (s t : List Int) : lx (a :: s) (b :: t) = true := by
  unfold lx
  rw [if_neg (by simp; omega)]
  simpa using h

abbrev Asc (L : List (List Int)) : Prop := L.Pairwise fun a b => lx a b = true

theorem allF_asc (os : List (List Int)) (h : ∀ o ∈ os, o.Pairwise (· < ·)) : Asc (allF os) := by
  induction os with
  | nil => simp [Asc, allF]
  | cons o os ih =>
    have ih := ih (fun x hx => h x (List.mem_cons_of_mem _ hx))
    unfold Asc allF
    refine List.pairwise_flatMap.2 ⟨fun a _ => List.pairwise_map.2 (ih.imp fun {r s} hrs => ?_), (h o (List.mem_cons_self ..)).imp fun {a b} hab x hx y hy => ?_⟩
    · exact (lx_same [a] r s).trans hrs
    · obtain ⟨r, _, rfl⟩ := List.mem_map.1 hx
      obtain ⟨s, _, rfl⟩ := List.mem_map.1 hy
      exact lx_cons hab r s

theorem ordN_asc (m : Nat) (l : List Int) (h : l.Pairwise (· < ·)) : Asc (ordN m l) := by
  induction m generalizing l with
  | zero => simp [Asc, ordN]
  | succ m ih =>
    unfold Asc ordN
    refine List.pairwise_flatMap.2 ⟨fun i _ => List.pairwise_map.2 ((ih _ (h.sublist (List.eraseIdx_sublist ..))).imp fun {r s} hrs => ?_), ?_⟩
    · exact (lx_same [l.getD i 0] r s).trans hrs
    · refine List.Pairwise.imp_of_mem ?_ List.pairwise_lt_range
      intro i j hi hj hij x hx y hy
      obtain ⟨r, _, rfl⟩ := List.mem_map.1 hx
      obtain ⟨s, _, rfl⟩ := List.mem_map.1 hy
      have hi' : i < l.length := by simpa using hi
      have hj' : j < l.length := by simpa using hj
      refine lx_cons ?_ r s
      rw [List.getD, List.getD, List.getElem?_eq_getElem hi', List.getElem?_eq_getElem hj']
      exact List.pairwise_iff_getElem.1 h i j hi' hj' hij

/-- The entries of an execution behind each other. -/
def plc (x : Exe) : List Int := x.from' ++ x.order.flatten

theorem rdo_asc (E R : List Evt) : ∀ o ∈ rdo E R, o.Pairwise (· < ·) := by
  induction R with
  | nil => simp [rdo]
  | cons x R ih =>
    unfold rdo
    split
    · intro o ho
      rcases List.mem_cons.1 ho with rfl | ho
      · refine List.pairwise_cons.2 ⟨fun w hw => ?_, wrs_sorted E 0 x.loc⟩
        obtain ⟨i, _, _, h2, _⟩ := wrs_mem hw
        omega
      · exact ih o ho
    · exact ih

theorem exs_asc (E : List Evt) : (exs E).Pairwise fun x y => lx (plc x) (plc y) = true := by
  have hF := allF_asc _ (rdo_asc E E)
  have hO := fun j => ordN_asc (wrs E 0 j).length _ (wrs_sorted E 0 j)
  unfold exs
  refine List.pairwise_flatMap.2 ⟨fun f _ => List.pairwise_flatMap.2 ⟨fun a _ => List.pairwise_flatMap.2 ⟨fun b _ => List.pairwise_map.2 ((hO 2).imp fun {c d} hcd => ?_), ?_⟩, ?_⟩, ?_⟩
  · simp only [plc, List.flatten_cons, List.flatten_nil, List.append_nil]
    rw [lx_same, lx_same, lx_same]; exact hcd
  · refine (hO 1).imp fun {b b'} hbb x hx y hy => ?_
    obtain ⟨c, _, rfl⟩ := List.mem_map.1 hx
    obtain ⟨d, _, rfl⟩ := List.mem_map.1 hy
    simp only [plc, List.flatten_cons, List.flatten_nil, List.append_nil]
    rw [lx_same, lx_same]; exact lx_app hbb _ _
  · refine (hO 0).imp fun {a a'} haa x hx y hy => ?_
    obtain ⟨b, _, hx⟩ := List.mem_flatMap.1 hx
    obtain ⟨c, _, rfl⟩ := List.mem_map.1 hx
    obtain ⟨b', _, hy⟩ := List.mem_flatMap.1 hy
    obtain ⟨d, _, rfl⟩ := List.mem_map.1 hy
    simp only [plc, List.flatten_cons, List.flatten_nil, List.append_nil]
    rw [lx_same]; exact lx_app haa _ _
  · refine hF.imp fun {f f'} hff x hx y hy => ?_
    obtain ⟨a, _, hx⟩ := List.mem_flatMap.1 hx
    obtain ⟨b, _, hx⟩ := List.mem_flatMap.1 hx
    obtain ⟨c, _, rfl⟩ := List.mem_map.1 hx
    obtain ⟨a', _, hy⟩ := List.mem_flatMap.1 hy
    obtain ⟨b', _, hy⟩ := List.mem_flatMap.1 hy
    obtain ⟨d, _, rfl⟩ := List.mem_map.1 hy
    exact lx_app hff _ _

/-- Each candidate goes ahead of the next. -/
theorem exN_next (E : List Evt) (n : Nat) (hn : n + 1 < sizeN E) : lx (plc (exN E n)) (plc (exN E (n + 1))) = true := by
  have h1 := exs_at E n (by omega)
  have h2 := exs_at E (n + 1) hn
  obtain ⟨k1, e1⟩ := List.getElem?_eq_some_iff.1 h1
  obtain ⟨k2, e2⟩ := List.getElem?_eq_some_iff.1 h2
  rw [← e1, ← e2]
  exact List.pairwise_iff_getElem.1 (exs_asc E) n (n + 1) k1 k2 (by omega)

/-! each is an execution -/
/-- One number for each read, out of what it may read from. -/
def picks : List Int → List (List Int) → Prop
  | [], [] => True
  | a :: l, o :: os => a ∈ o ∧ picks l os
  | _, _ => False

theorem chF_picks (n : Nat) (os : List (List Int)) (h : ∀ o ∈ os, 1 ≤ o.length) (wt : Nat) : picks (chF n os wt) os := by
  induction os generalizing wt with
  | nil => exact True.intro
  | cons o os ih =>
    have h1 := h o (List.mem_cons_self ..)
    refine ⟨?_, ih (fun x hx => h x (List.mem_cons_of_mem _ hx)) _⟩
    have hlt : n / (wt / o.length) % o.length < o.length := Nat.mod_lt _ h1
    rw [List.getD, List.getElem?_eq_getElem hlt]
    exact List.getElem_mem hlt

theorem chO_perm (n m : Nat) (l : List Int) (h : l.length = m) (wt : Nat) : (chO n m l wt).Perm l := by
  induction m generalizing l wt with
  | zero => have : l = [] := List.eq_nil_of_length_eq_zero h
            subst this; exact List.Perm.refl _
  | succ m ih =>
    unfold chO
    have hlt : n / (wt / l.length) % l.length < l.length := Nat.mod_lt _ (by omega)
    generalize hd : n / (wt / l.length) % l.length = d at hlt
    rw [List.getD, List.getElem?_eq_getElem hlt]
    refine (List.Perm.cons _ (ih (l.eraseIdx d) (by rw [List.length_eraseIdx, if_pos hlt]; omega) _)).trans ?_
    have e : l = l.take d ++ l[d] :: l.drop (d + 1) := by rw [← List.drop_eq_getElem_cons hlt, List.take_append_drop]
    rw [List.eraseIdx_eq_take_drop_succ]
    have p := List.perm_middle (a := l[d]) (l₁ := l.take d) (l₂ := l.drop (d + 1))
    rw [← e] at p
    exact p.symm

/-- An execution of these events. -/
structure Drawn (E : List Evt) (x : Exe) : Prop where
  f : picks x.from' (rdo E E)
  o : ∃ a b c, x.order = [a, b, c] ∧ a.Perm (wrs E 0 0) ∧ b.Perm (wrs E 0 1) ∧ c.Perm (wrs E 0 2)

theorem exN_drawn (E : List Evt) (n : Nat) : Drawn E (exN E n) :=
  ⟨chF_picks _ _ (rdo_pos E E) _, _, _, _, rfl, chO_perm _ _ _ rfl _, chO_perm _ _ _ rfl _, chO_perm _ _ _ rfl _⟩

theorem Drawn.row {E : List Evt} {x : Exe} (h : Drawn E x) {j : Nat} {l : List Int} (hl : x.order[j]? = some l) : l.Perm (wrs E 0 (j : Int)) := by
  obtain ⟨a, b, c, ho, ha, hb, hc⟩ := h.o
  rw [ho] at hl
  match j, hl with
  | 0, hl => simp at hl; subst hl; exact ha
  | 1, hl => simp at hl; subst hl; exact hb
  | 2, hl => simp at hl; subst hl; exact hc
  | j + 3, hl => simp at hl

/-- At the end each write of a location has stood once. -/
theorem Drawn.once {E : List Evt} {x : Exe} (h : Drawn E x) (hE : ∀ y ∈ E, locB y.loc = true) {i : Nat} {y : Evt} (hy : E[i]? = some y) (hk : y.kind = 1) : x.order.flatten.count (i : Int) = 1 := by
  obtain ⟨a, b, c, ho, ha, hb, hc⟩ := h.o
  have hl := hE y (List.mem_of_getElem? hy)
  unfold locB at hl
  simp only [Bool.and_eq_true, decide_eq_true_eq] at hl
  have k0 := wrs_count (k := 0) (loc := 0) hy
  have k1 := wrs_count (k := 0) (loc := 1) hy
  have k2 := wrs_count (k := 0) (loc := 2) hy
  rw [Nat.zero_add] at k0 k1 k2
  rw [ho]
  simp only [List.flatten_cons, List.flatten_nil, List.append_nil, List.count_append]
  rw [ha.count_eq, hb.count_eq, hc.count_eq, k0, k1, k2, hk]
  have h3 : y.loc = 0 ∨ y.loc = 1 ∨ y.loc = 2 := by omega
  rcases h3 with e | e | e <;> simp [e]

end Go.Proofs.Ytbmlmplbhgahpaa
