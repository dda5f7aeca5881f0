import Derived.Test.YtomijmikkbhgmaaGreatT7
import Derived.Deep.OwnRows
namespace Go.Proofs.YtomijmikkbhgmaaGreat

/-- Does a list go ahead of another one, number by number? -/
def lx : List Int → List Int → Bool
  | a :: l, b :: m => if a == b then lx l m else decide (a < b)
  | _, _ => false

theorem lx_app {a b : List Int} (h : lx a b = true) (s t : List Int) : lx (a ++ s) (b ++ t) = true := by
  induction a generalizing b with
  | nil => simp [lx] at h
  | cons x a ih =>
    cases b with
    | nil => simp [lx] at h
    | cons y b =>
      rw [List.cons_append, List.cons_append]
      unfold lx at h ⊢
      split
      · rename_i e; rw [if_pos e] at h; exact ih h
      · rename_i e; rw [if_neg e] at h; exact h

theorem lx_same (a s t : List Int) : lx (a ++ s) (a ++ t) = lx s t := by
  induction a with
  | nil => rfl
  | cons x a ih => rw [List.cons_append, List.cons_append, lx, if_pos (by simp)]; exact ih

theorem lx_cons {a b : Int} (h : a < b) (s t : List Int) : lx (a :: s) (b :: t) = true := by
  unfold lx
  rw [if_neg (by simp; omega)]
  simpa using h

abbrev Asc (L : List (List Int)) : Prop := L.Pairwise fun a b => lx a b = true

theorem allF_asc (os : List (List Int)) (h : ∀ o ∈ os, o.Pairwise (· < ·)) : Asc (allF os) := by
  induction os with
  | nil => simp [Asc, allF]
  | cons o os ih =>
    have ih := ih (fun x hx => h x (List.mem_cons_of_mem _ hx))
    unfold Asc allF
    refine List.pairwise_flatMap.2 ⟨fun a _ => List.pairwise_map.2 (ih.imp fun {r s} hrs => ?_), (h o (List.mem_cons_self ..)).imp fun {a b} hab x hx y hy => ?_⟩
    · exact (lx_same [a] r s).trans hrs
    · obtain ⟨r, _, rfl⟩ := List.mem_map.1 hx
      obtain ⟨s, _, rfl⟩ := List.mem_map.1 hy
      exact lx_cons hab r s

theorem ordN_asc (m : Nat) (l : List Int) (h : l.Pairwise (· < ·)) : Asc (ordN m l) := by
  induction m generalizing l with
  | zero => simp [Asc, ordN]
  | succ m ih =>
    unfold Asc ordN
    refine List.pairwise_flatMap.2 ⟨fun i _ => List.pairwise_map.2 ((ih _ (h.sublist (List.eraseIdx_sublist ..))).imp fun {r s} hrs => ?_), ?_⟩
    · exact (lx_same [l.getD i 0] r s).trans hrs
    · refine List.Pairwise.imp_of_mem ?_ List.pairwise_lt_range
      intro i j hi hj hij x hx y hy
      obtain ⟨r, _, rfl⟩ := List.mem_map.1 hx
      obtain ⟨s, _, rfl⟩ := List.mem_map.1 hy
      have hi' : i < l.length := by simpa using hi
      have hj' : j < l.length := by simpa using hj
      refine lx_cons ?_ r s
      rw [List.getD, List.getD, List.getElem?_eq_getElem hi', List.getElem?_eq_getElem hj']
      exact List.pairwise_iff_getElem.1 h i j hi' hj' hij

/-- The entries of an execution behind each other. -/
def plc (x : Exe) : List Int := x.from' ++ x.order.flatten

theorem rdo_asc (E R : List Evt) : ∀ o ∈ rdo E R, o.Pairwise (· < ·) := by
  induction R with
  | nil => simp [rdo]
  | cons x R ih =>
    unfold rdo
    split
    · intro o ho
      rcases List.mem_cons.1 ho with rfl | ho
      · refine List.pairwise_cons.2 ⟨fun w hw => ?_, wrs_sorted E 0 x.loc⟩
        obtain ⟨i, _, _, h2, _⟩ := wrs_mem hw
        omega
      · exact ih o ho
    · exact ih

theorem exs_asc (E : List Evt) : (exs E).Pairwise fun x y => lx (plc x) (plc y) = true := by
  have hF := allF_asc _ (rdo_asc E E)
  have hO := fun j => ordN_asc (wrs E 0 j).length _ (wrs_sorted E 0 j)
  unfold exs
  refine List.pairwise_flatMap.2 ⟨fun f _ => List.pairwise_flatMap.2 ⟨fun a _ => List.pairwise_flatMap.2 ⟨fun b _ => List.pairwise_map.2 ((hO 2).imp fun {c d} hcd => ?_), ?_⟩, ?_⟩, ?_⟩
  · simp only [plc, List.flatten_cons, List.flatten_nil, List.append_nil]
    rw [lx_same, lx_same, lx_same]; exact hcd
  · refine (hO 1).imp fun {b b'} hbb x hx y hy => ?_
    obtain ⟨c, _, rfl⟩ := List.mem_map.1 hx
    obtain ⟨d, _, rfl⟩ := List.mem_map.1 hy
    simp only [plc, List.flatten_cons, List.flatten_nil, List.append_nil]
    rw [lx_same, lx_same]; exact lx_app hbb _ _
  · refine (hO 0).imp fun {a a'} haa x hx y hy => ?_
    obtain ⟨b, _, hx⟩ := List.mem_flatMap.1 hx
    obtain ⟨c, _, rfl⟩ := List.mem_map.1 hx
    obtain ⟨b', _, hy⟩ := List.mem_flatMap.1 hy
    obtain ⟨d, _, rfl⟩ := List.mem_map.1 hy
    simp only [plc, List.flatten_cons, List.flatten_nil, List.append_nil]
    rw [lx_same]; exact lx_app haa _ _
  · refine hF.imp fun {f f'} hff x hx y hy => ?_
    obtain ⟨a, _, hx⟩ := List.mem_flatMap.1 hx
    obtain ⟨b, _, hx⟩ := List.mem_flatMap.1 hx
    obtain ⟨c, _, rfl⟩ := List.mem_map.1 hx
    obtain ⟨a', _, hy⟩ := List.mem_flatMap.1 hy
    obtain ⟨b', _, hy⟩ := List.mem_flatMap.1 hy
    obtain ⟨d, _, rfl⟩ := List.mem_map.1 hy
    exact lx_app hff _ _

/-- Each candidate goes ahead of the next. -/
theorem exN_next (E : List Evt) (n : Nat) (hn : n + 1 < sizeN E) : lx (plc (exN E n)) (plc (exN E (n + 1))) = true := by
  have h1 := exs_at E n (by omega)
  have h2 := exs_at E (n + 1) hn
  obtain ⟨k1, e1⟩ := List.getElem?_eq_some_iff.1 h1
  obtain ⟨k2, e2⟩ := List.getElem?_eq_some_iff.1 h2
  rw [← e1, ← e2]
  exact List.pairwise_iff_getElem.1 (exs_asc E) n (n + 1) k1 k2 (by omega)

/-! each is an execution -/
/-- One number for each read, out of what it may read from. -/
def picks : List Int → List (List Int) → Prop
  | [], [] => True
  | a :: l, o :: os => a ∈ o ∧ picks l os
  | _, _ => False

theorem chF_picks (n : Nat) (os : List (List Int)) (h : ∀ o ∈ os, 1 ≤ o.length) (wt : Nat) : picks (chF n os wt) os := by
  induction os generalizing wt with
  | nil => exact True.intro
  | cons o os ih =>
    have h1 := h o (List.mem_cons_self ..)
    refine ⟨?_, ih (fun x hx => h x (List.mem_cons_of_mem _ hx)) _⟩
    have hlt : n / (wt / o.length) % o.length < o.length := Nat.mod_lt _ h1
    rw [List.getD, List.getElem?_eq_getElem hlt]
    exact List.getElem_mem hlt

theorem chO_perm (n m : Nat) (l : List Int) (h : l.length = m) (wt : Nat) : (chO n m l wt).Perm l := by
  induction m generalizing l wt with
  | zero => have : l = [] := List.eq_nil_of_length_eq_zero h
            subst this; exact List.Perm.refl _
  | succ m ih =>
    unfold chO
    have hlt : n / (wt / l.length) % l.length < l.length := Nat.mod_lt _ (by omega)
    generalize hd : n / (wt / l.length) % l.length = d at hlt
    rw [List.getD, List.getElem?_eq_getElem hlt]
    refine (List.Perm.cons _ (ih (l.eraseIdx d) (by rw [List.length_eraseIdx, if_pos hlt]; omega) _)).trans ?_
    have e : l = l.take d ++ l[d] :: l.drop (d + 1) := by rw [← List.drop_eq_getElem_cons hlt, List.take_append_drop]
    rw [List.eraseIdx_eq_take_drop_succ]
    have p := List.perm_middle (a := l[d]) (l₁ := l.take d) (l₂ := l.drop (d + 1))
    rw [← e] at p
    exact p.symm

/-- An execution of these events. -/
structure Drawn (E : List Evt) (x : Exe) : Prop where
  f : picks x.from' (rdo E E)
  o : ∃ a b c, x.order = [a, b, c] ∧ a.Perm (wrs E 0 0) ∧ b.Perm (wrs E 0 1) ∧ c.Perm (wrs E 0 2)

theorem exN_drawn (E : List Evt) (n : Nat) : Drawn E (exN E n) :=
  ⟨chF_picks _ _ (rdo_pos E E) _, _, _, _, rfl, chO_perm _ _ _ rfl _, chO_perm _ _ _ rfl _, chO_perm _ _ _ rfl _⟩

theorem Drawn.row {E : List Evt} {x : Exe} (h : Drawn E x) {j : Nat} {l : List Int} (hl : x.order[j]? = some l) : l.Perm (wrs E 0 (j : Int)) := by
  obtain ⟨a, b, c, ho, ha, hb, hc⟩ := h.o
  rw [ho] at hl
  match j, hl with
  | 0, hl => simp at hl; subst hl; exact ha
  | 1, hl => simp at hl; subst hl; exact hb
  | 2, hl => simp at hl; subst hl; exact hc
  | j + 3, hl => simp at hl

/-- At the end each write of a location has stood once. -/
theorem Drawn.once {E : List Evt} {x : Exe} (h : Drawn E x) (hE : ∀ y ∈ E, locB y.loc = true) {i : Nat} {y : Evt} (hy : E[i]? = some y) (hk : y.kind = 1) : x.order.flatten.count (i : Int) = 1 := by
  obtain ⟨a, b, c, ho, ha, hb, hc⟩ := h.o
  have hl := hE y (List.mem_of_getElem? hy)
  unfold locB at hl
  simp only [Bool.and_eq_true, decide_eq_true_eq] at hl
  have k0 := wrs_count (k := 0) (loc := 0) hy
  have k1 := wrs_count (k := 0) (loc := 1) hy
  have k2 := wrs_count (k := 0) (loc := 2) hy
  rw [Nat.zero_add] at k0 k1 k2
  rw [ho]
  simp only [List.flatten_cons, List.flatten_nil, List.append_nil, List.count_append]
  rw [ha.count_eq, hb.count_eq, hc.count_eq, k0, k1, k2, hk]
  have h3 : y.loc = 0 ∨ y.loc = 1 ∨ y.loc = 2 := by omega
  rcases h3 with e | e | e <;> simp [e]

end Go.Proofs.YtomijmikkbhgmaaGreat

namespace Go.Proofs.YtomijmikkbhgmaaGreat

/-- All arrows lead between events. -/
def Arws (n : Nat) (A : List (Int × Int)) : Prop := ∀ p ∈ A, ∃ a b : Nat, a < n ∧ b < n ∧ p = ((a : Int), (b : Int))

/-- To each event of the set an arrow leads from within it. -/
def Core (n : Nat) (A : List (Int × Int)) (S : Nat → Prop) : Prop := ∀ b, b < n → S b → ∃ a : Nat, a < n ∧ S a ∧ ((a : Int), (b : Int)) ∈ A

def Cyc (n : Nat) (A : List (Int × Int)) : Prop := ∃ S : Nat → Prop, (∃ b, b < n ∧ S b) ∧ Core n A S

theorem Cyc.mono {n : Nat} {A B : List (Int × Int)} (h : Cyc n A) (hs : ∀ p ∈ A, p ∈ B) : Cyc n B := by
  obtain ⟨S, h1, h2⟩ := h
  refine ⟨S, h1, fun b hb hS => ?_⟩
  obtain ⟨a, k1, k2, k3⟩ := h2 b hb hS
  exact ⟨a, k1, k2, hs _ k3⟩

/-- Does an arrow lead to an event from one that is still there? -/
def ldB (g : Nat → Bool) (to : Int) (A : List (Int × Int)) : Bool := A.any fun p => p.2 == to && !g p.1.toNat

theorem ldB_iff {n : Nat} {A : List (Int × Int)} (hA : Arws n A) (g : Nat → Bool) (b : Nat) : ldB g (b : Int) A = true ↔ ∃ a : Nat, a < n ∧ g a = false ∧ ((a : Int), (b : Int)) ∈ A := by
  unfold ldB
  rw [List.any_eq_true]
  constructor
  · rintro ⟨p, hp, h⟩
    obtain ⟨a, c, ha, _, rfl⟩ := hA p hp
    simp only [Bool.and_eq_true, beq_iff_eq, Bool.not_eq_true', Int.toNat_natCast] at h
    obtain ⟨h1, h2⟩ := h
    rw [h1] at hp
    exact ⟨a, ha, h2, hp⟩
  · rintro ⟨a, _, h2, h3⟩
    exact ⟨_, h3, by simp [h2]⟩

/-- How many are still there. -/
def stay (n : Nat) (g : Nat → Bool) : Nat := ((List.range n).filter fun i => !g i).length

def take1 (g : Nat → Bool) (i : Nat) : Nat → Bool := fun j => if j = i then true else g j

theorem stay_take {n : Nat} {g : Nat → Bool} {i : Nat} (hi : i < n) (hg : g i = false) : stay n (take1 g i) + 1 = stay n g := by
  unfold stay take1
  induction n with
  | zero => omega
  | succ n ih =>
    rw [List.range_succ, List.filter_append, List.filter_append, List.length_append, List.length_append]
    by_cases e : i = n
    · subst e
      have h1 : (List.range i).filter (fun j => !(if j = i then true else g j)) = (List.range i).filter (fun j => !g j) := by
        refine List.filter_congr fun j hj => ?_
        have : j < i := by simpa using hj
        rw [if_neg (by omega)]
      rw [h1]
      simp [hg]
    · have := ih (by omega)
      have h2 : ¬ n = i := fun h => e h.symm
      simp only [List.filter_cons, List.filter_nil, if_neg h2]
      omega

theorem stay_zero {n : Nat} {g : Nat → Bool} (h : stay n g = 0) : ∀ i, i < n → g i = true := by
  intro i hi
  cases hg : g i
  · have := stay_take hi hg; omega
  · rfl

theorem stay_all (n : Nat) : stay n (fun _ => false) = n := by
  show ((List.range n).filter fun _ => true).length = n
  rw [List.filter_eq_self.2 (fun _ _ => rfl), List.length_range]

theorem stay_le (n : Nat) (g : Nat → Bool) : stay n g ≤ n := by
  unfold stay
  have := List.length_filter_le (fun i => !g i) (List.range n)
  simpa using this

theorem stay_pos {n : Nat} {g : Nat → Bool} (h : 0 < stay n g) : ∃ i, i < n ∧ g i = false := by
  unfold stay at h
  obtain ⟨i, hi⟩ := List.exists_mem_of_length_pos h
  rw [List.mem_filter] at hi
  exact ⟨i, by simpa using hi.1, by simpa using hi.2⟩

/-- Nothing more can be taken away. -/
def Stable (n : Nat) (A : List (Int × Int)) (g : Nat → Bool) : Prop := ∀ b, b < n → g b = false → ldB g (b : Int) A = true

/-- No set that keeps itself has lost anything. -/
def Safe (n : Nat) (A : List (Int × Int)) (g : Nat → Bool) : Prop := ∀ S, Core n A S → ∀ b, b < n → S b → g b = false

theorem Safe.start (n : Nat) (A : List (Int × Int)) : Safe n A (fun _ => false) := fun _ _ _ _ _ => rfl

theorem Safe.take {n : Nat} {A : List (Int × Int)} {g : Nat → Bool} (hA : Arws n A) (h : Safe n A g) {i : Nat} (hl : ldB g (i : Int) A = false) : Safe n A (take1 g i) := by
  intro S hS b hb hSb
  unfold take1
  by_cases e : b = i
  · subst e
    obtain ⟨a, ha, hSa, hm⟩ := hS b hb hSb
    have := (ldB_iff hA g b).2 ⟨a, ha, h S hS a ha hSa, hm⟩
    rw [hl] at this
    cases this
  · rw [if_neg e]; exact h S hS b hb hSb

/-- In the midst of a turn. -/
structure Turn (n : Nat) (A : List (Int × Int)) (t i : Nat) (g : Nat → Bool) : Prop where
  safe : Safe n A g
  step : stay n g + (t + 1) ≤ n ∨ (stay n g + t ≤ n ∧ ∀ b, b < i → g b = false → ldB g (b : Int) A = true) ∨ Stable n A g

theorem Turn.first (n : Nat) (A : List (Int × Int)) : Turn n A 0 0 (fun _ => false) := ⟨Safe.start n A, .inr (.inl ⟨by rw [stay_all]; omega, fun b hb => by omega⟩)⟩

theorem Turn.gone {n : Nat} {A : List (Int × Int)} {t i : Nat} {g : Nat → Bool} (h : Turn n A t i g) (hg : g i = true) : Turn n A t (i + 1) g := by
  refine ⟨h.safe, ?_⟩
  rcases h.step with h1 | ⟨h1, h2⟩ | h1
  · exact .inl h1
  · refine .inr (.inl ⟨h1, fun b hb hgb => ?_⟩)
    by_cases e : b = i
    · subst e; rw [hg] at hgb; cases hgb
    · exact h2 b (by omega) hgb
  · exact .inr (.inr h1)

theorem Turn.stays {n : Nat} {A : List (Int × Int)} {t i : Nat} {g : Nat → Bool} (h : Turn n A t i g) (hl : ldB g (i : Int) A = true) : Turn n A t (i + 1) g := by
  refine ⟨h.safe, ?_⟩
  rcases h.step with h1 | ⟨h1, h2⟩ | h1
  · exact .inl h1
  · refine .inr (.inl ⟨h1, fun b hb hgb => ?_⟩)
    by_cases e : b = i
    · subst e; exact hl
    · exact h2 b (by omega) hgb
  · exact .inr (.inr h1)

theorem Turn.takes {n : Nat} {A : List (Int × Int)} (hA : Arws n A) {t i : Nat} {g : Nat → Bool} (h : Turn n A t i g) (hi : i < n) (hg : g i = false) (hl : ldB g (i : Int) A = false) : Turn n A t (i + 1) (take1 g i) := by
  have hs := stay_take hi hg
  refine ⟨h.safe.take hA hl, ?_⟩
  rcases h.step with h1 | ⟨h1, _⟩ | h1
  · exact .inl (by omega)
  · exact .inl (by omega)
  · have := h1 i hi hg
    rw [hl] at this
    cases this

theorem Turn.next {n : Nat} {A : List (Int × Int)} {t : Nat} {g : Nat → Bool} (h : Turn n A t n g) : Turn n A (t + 1) 0 g := by
  refine ⟨h.safe, ?_⟩
  rcases h.step with h1 | ⟨_, h2⟩ | h1
  · exact .inr (.inl ⟨h1, fun b hb => by omega⟩)
  · exact .inr (.inr h2)
  · exact .inr (.inr h1)

theorem Turn.last {n : Nat} {A : List (Int × Int)} (hA : Arws n A) {g : Nat → Bool} (h : Turn n A n 0 g) : decide (0 < stay n g) = true ↔ Cyc n A := by
  rw [decide_eq_true_eq]
  constructor
  · intro h0
    rcases h.step with h1 | ⟨h1, _⟩ | h1
    · omega
    · omega
    · obtain ⟨i, hi, hgi⟩ := stay_pos h0
      refine ⟨fun b => g b = false, ⟨i, hi, hgi⟩, fun b hb hgb => ?_⟩
      exact (ldB_iff hA g b).1 (h1 b hb hgb)
  · rintro ⟨S, ⟨b, hb, hSb⟩, hS⟩
    refine Nat.pos_of_ne_zero fun h0 => ?_
    have h1 := stay_zero h0 b hb
    rw [h.safe S hS b hb hSb] at h1
    cases h1

end Go.Proofs.YtomijmikkbhgmaaGreat

namespace Go.Proofs.YtomijmikkbhgmaaGreat
open Go.RowKit

structure ArwC (w : World) (b off : Nat) (p : Int × Int) : Prop where
  c0 : w.cell? ⟨b, off, none⟩ = some (.int .i64 p.1)
  c1 : w.cell? ⟨b, off + 1, none⟩ = some (.int .i64 p.2)
theorem arwC_keeps : Keeps ArwC := fun _ _ _ _ _ hb h => ⟨keep_cell hb h.c0, keep_cell hb h.c1⟩
def ArwAt (w : World) (v : Value) (l : List (Int × Int)) : Prop := ∃ ao b off cap, SlAt w 2 ArwC v l ao b off cap
theorem ArwAt.keep {w w' : World} {v : Value} {l : List (Int × Int)} (h : ArwAt w v l) (hb : Below w.heap.size w w') : ArwAt w' v l := by
  obtain ⟨ao, b, off, cap, h⟩ := h
  exact ⟨ao, b, off, cap, h.keep arwC_keeps hb⟩

theorem Tryz.infoBool : (Tryz.prog.info? 4).map (fun i => (i.zero, i.size, i.bytes)) = some (some (.bool false), 1, 1) := by kernel_rfl

theorem ldB_hit {g : Nat → Bool} {to : Int} {p : Int × Int} (A : List (Int × Int)) (h1 : p.2 = to) (h2 : g p.1.toNat = false) : ldB g to (p :: A) = true := by simp [ldB, h1, h2]
theorem ldB_mis {g : Nat → Bool} {to : Int} {p : Int × Int} (A : List (Int × Int)) (h : p.2 = to → g p.1.toNat = true) : ldB g to (p :: A) = ldB g to A := by
  unfold ldB
  rw [List.any_cons]
  by_cases e : p.2 = to
  · simp [e, h e]
  · simp [e]

set_option maxHeartbeats 1000000 in
theorem leads_any (n : Nat) (_hn : n ≤ 100000) (A : List (Int × Int)) (hA : Arws n A) (hl : A.length ≤ 1000000) (g : Nat → Bool) (bT : Nat) (to : Int) (v : Value) (w : World) (h : ArwAt w v A) (hr : w.rowIs bT 4 n (fun i => .bool (g i))) :
    Calls Tryz.prog 148 #[v, .slice (some ⟨bT, 0, none⟩) n n, .int .i64 to] w fun e w' => e = .returned (.bool (ldB g to A)) ∧ w' = w := by
  obtain ⟨ao, b, off, cap, hv, ha, _, hc⟩ := h
  subst hv
  have HC : Hid ((∀ k p, A[k]? = some p → ArwC w b (off + k * 2) p) ∧ Arws n A ∧ w.rowIs bT 4 n (fun i => .bool (g i))) := ⟨hc, hA, hr⟩
  generalize hB : ldB g to A = B
  have HB : Hid (B = ldB g to (A.drop 0)) := hB.symm
  clear hc hA hr hB
  go_enter Tryz.func148, Tryz.ntmps148
  go_wp2_with fail
  go_loop [7] (fun i => ∃ k : Nat, k ≤ A.length ∧ i = .int .i64 k ∧ Hid (B = ldB g to (A.drop k))) (fun i => A.length - (intOf i).toNat)
  case atStart => exact ⟨0, Nat.zero_le _, rfl, HB.out⟩
  case round =>
    clear HB
    obtain ⟨k, hk, rfl, hn2⟩ := hrel
    by_cases hlt : k < A.length
    · obtain ⟨p, hp⟩ := get_of_lt hlt
      obtain ⟨a, c, ha3, hc3, rfl⟩ := HC.out.2.1 p (List.mem_of_getElem? hp)
      have hN : Hid (B = ldB g to (((a : Int), (c : Int)) :: A.drop (k + 1))) := by rw [← drop_cons hp]; exact hn2
      obtain ⟨c0, c1⟩ := HC.out.1 k _ hp
      obtain rfl := ha (ne_nil hlt)
      simp only at c0 c1
      have r0 := HC.out.2.2.cell ha3
      have haI : (a : Int) < (n : Int) := by omega
      have hkI : (k : Int) < (A.length : Int) := by omega
      clear hn2 hp
      cases h1 : ((c : Int) == to)
      · have HM : Hid (B = ldB g to (A.drop (k + 1))) := hN.out.trans (ldB_mis _ (fun e => by simp at h1; exact absurd e h1))
        clear hN
        go_wp2_with fail
        go_round
        case measure => simp [intOf]; omega
        case rel => exact ⟨k + 1, by omega, by go_num, HM.out⟩
      · cases h2 : g a
        · have HM : Hid (B = true) := hN.out.trans (ldB_hit _ (by simpa using h1) (by simpa using h2))
          clear hN
          go_wp2_with fail
          go_ret
          exact ⟨by rw [HM.out]; rfl, rfl⟩
        · have HM : Hid (B = ldB g to (A.drop (k + 1))) := hN.out.trans (ldB_mis _ (fun _ => by simpa using h2))
          clear hN
          go_wp2_with fail
          go_round
          case measure => simp [intOf]; omega
          case rel => exact ⟨k + 1, by omega, by go_num, HM.out⟩
    · have HM : Hid (B = false) := hn2.out.trans (by rw [drop_nil hlt]; rfl)
      clear hn2
      go_wp2_with fail
      go_ret
      exact ⟨by rw [HM.out]; rfl, rfl⟩

end Go.Proofs.YtomijmikkbhgmaaGreat

namespace Go.Proofs.YtomijmikkbhgmaaGreat
open Go.RowKit

/-- The reads: their numbers, and they themselves. -/
def rdsX : List Evt → Nat → List (Nat × Evt)
  | [], _ => []
  | x :: E, i => if x.kind == 0 then (i, x) :: rdsX E (i + 1) else rdsX E (i + 1)
def rdsI (E : List Evt) (i : Nat) : List Int := (rdsX E i).map fun p => (p.1 : Int)

theorem rdsX_hit {x : Evt} (h : (x.kind == 0) = true) (E : List Evt) (i : Nat) : rdsX (x :: E) i = (i, x) :: rdsX E (i + 1) := by rw [rdsX, if_pos h]
theorem rdsX_mis {x : Evt} (h : (x.kind == 0) = false) (E : List Evt) (i : Nat) : rdsX (x :: E) i = rdsX E (i + 1) := by rw [rdsX, if_neg (by simp [h])]

theorem rdo_eq (E R : List Evt) (i : Nat) : rdo E R = (rdsX R i).map fun p => -1 :: wrs E 0 p.2.loc := by
  induction R generalizing i with
  | nil => rfl
  | cons x R ih =>
    cases h : x.kind == 0
    · rw [rdsX_mis h, rdo, if_neg (by simp [h])]; exact ih (i + 1)
    · rw [rdsX_hit h, rdo, if_pos h, List.map_cons, ih (i + 1)]

theorem rdsX_get {R : List Evt} {i : Nat} {p : Nat × Evt} (h : p ∈ rdsX R i) : i ≤ p.1 ∧ R[p.1 - i]? = some p.2 := by
  induction R generalizing i with
  | nil => simp [rdsX] at h
  | cons x R ih =>
    have key : p ∈ rdsX R (i + 1) → i ≤ p.1 ∧ (x :: R)[p.1 - i]? = some p.2 := by
      intro hp
      obtain ⟨h1, h2⟩ := ih hp
      refine ⟨by omega, ?_⟩
      rw [show p.1 - i = (p.1 - (i + 1)) + 1 by omega]
      simpa using h2
    cases hk : x.kind == 0
    · rw [rdsX_mis hk] at h; exact key h
    · rw [rdsX_hit hk] at h
      rcases List.mem_cons.1 h with rfl | h
      · simp
      · exact key h

theorem rdsX_len (R : List Evt) (i : Nat) : (rdsX R i).length ≤ R.length := by
  induction R generalizing i with
  | nil => simp [rdsX]
  | cons x R ih => have := ih (i + 1); unfold rdsX; split <;> simp <;> omega

set_option maxHeartbeats 1000000 in
theorem reads_any (E : List Evt) (hE : E.length ≤ 96) (v : Value) (w : World) (h : Ev9At w v E) :
    Calls Tryz.prog 107 #[v] w fun e w' => ∃ u, e = .returned u ∧ IntNew w.heap.size w' u (rdsI E 0) ∧ Below w.heap.size w w' := by
  obtain ⟨ao, b, off, cap, hv, ha, _, hc⟩ := h
  subst hv
  obtain ⟨i0, hi, hz0, hz1, hz2⟩ := info_parts Tryz.info3
  have HI : Hid (Tryz.prog.info? 3 = some i0 ∧ i0.zero = some (.int .i64 0) ∧ i0.size = 1 ∧ i0.bytes = 8) := ⟨hi, hz0, hz1, hz2⟩
  clear hi hz0 hz1 hz2
  go_enter Tryz.func107, Tryz.ntmps107
  go_wp2_with fail
  go_loopw [3, 4] (fun u i wr => ∃ (k : Nat) (xs : List Int), k ≤ E.length ∧ i = .int .i64 k ∧ xs.length ≤ k ∧ Hid (rdsI E 0 = xs ++ rdsI (E.drop k) k) ∧ wr.ownsRow w.heap.size 3 1 u xs.length (xs.map (Value.int .i64)) ∧ Below w.heap.size w wr) (fun _ i _ => E.length - (intOf i).toNat)
  case atStart => exact ⟨0, [], Nat.zero_le _, rfl, Nat.le_refl _, rfl, World.ownsRow_nil _ _ _ _, Below.refl _ _⟩
  case round =>
    obtain ⟨k, xs, hk, rfl, hxk, hn, hown, hb⟩ := hrel
    have hsz := hb.size
    by_cases hlt : k < E.length
    · obtain ⟨x, hx⟩ := get_of_lt hlt
      have hC := hc k x hx
      have hbl := hC.lt
      obtain rfl := ha (ne_nil hlt)
      obtain ⟨_, _, c2, _, _, _, _, _, _⟩ := ev9C_keeps _ _ _ _ _ hb hC
      have HN : Hid (rdsI E 0 = xs ++ rdsI (x :: E.drop (k + 1)) k) := by rw [← drop_cons hx]; exact hn
      have HC : Hid (∀ k x, E[k]? = some x → Ev9C w b (off + k * 9) x) := hc
      clear hn hx hc hC ha
      cases h1 : x.kind == 0
      · have HM : Hid (rdsI E 0 = xs ++ rdsI (E.drop (k + 1)) (k + 1)) := HN.out.trans (by unfold rdsI; rw [rdsX_mis h1])
        go_wp2_with fail
        go_roundw
        case measure => simp [intOf]; omega
        case rel => exact ⟨k + 1, xs, by omega, by go_num, by omega, HM.out, hown, hb⟩
      · have HM : Hid (rdsI E 0 = (xs ++ [(k : Int)]) ++ rdsI (E.drop (k + 1)) (k + 1)) := HN.out.trans (by unfold rdsI; rw [rdsX_hit h1]; simp)
        go_wp2_with (at_builtin; refine append_new _ rfl (.tmp 17) (.tmp 19) 26 rfl w.heap.size 3 i0 (.int .i64 0) 1 8 Tryz.underlying26 HI.out.1 HI.out.2.1 HI.out.2.2.1 HI.out.2.2.2 rfl (by decide) u3 xs.length (xs.map (Value.int .i64)) rfl (hown.alloc _) (some ⟨wr.heap.size, 0, none⟩) 1 1 [.int .i64 k] rfl (fun h => by cases h) rfl (fun ad had => by cases had; exact new_one rfl) (by simp [Value.oneCell']) (by unfold maxLen; omega) (by omega) (by simp; omega) ?_)
        intro u' w1 hown' hgrow _
        have hb' : Below w.heap.size w w1 := Below.grown (hb.alloc hsz _) hgrow (by simp; omega) (fun kk e => (hown.lt kk e).1)
        have HO : Hid (w1.ownsRow w.heap.size 3 1 u' (xs ++ [(k : Int)]).length ((xs ++ [(k : Int)]).map (Value.int .i64))) := own_snoc hown'
        clear hgrow hown hown'
        go_wp2_with fail
        go_roundw
        case measure => simp [intOf]; omega
        case rel => exact ⟨k + 1, xs ++ [(k : Int)], by omega, by go_num, by simp; omega, HM.out, HO.out, hb'⟩
    · have HM : Hid (rdsI E 0 = xs) := hn.out.trans (by rw [drop_nil hlt]; simp [rdsI, rdsX])
      clear hn hc ha
      go_wp2_with fail
      go_ret
      exact ⟨_, rfl, by rw [HM.out]; exact owns_int hown, hb⟩

theorem int_cells {w : World} {v : Value} {l : List Int} {ao : Option Addr} {b off cap : Nat} (h : SlAt w 1 IntC v l ao b off cap) : ∀ ad, ao = some ad → ∀ j u, (l.map (Value.int .i64))[j]? = some u → w.cell? (ad.add j) = some u := by
  intro ad had j u hj
  rw [List.getElem?_map] at hj
  obtain ⟨x, hx, rfl⟩ := Option.map_eq_some_iff.1 hj
  have hk : j < l.length := (List.getElem?_eq_some_iff.1 hx).1
  rw [h.ha (ne_nil hk)] at had
  cases had
  have hC := h.hc j x hx
  unfold IntC at hC
  rw [Nat.mul_one] at hC
  rw [Addr.add_lit]; exact hC

set_option maxHeartbeats 1000000 in
theorem longer_any (l : List Int) (hl : l.length ≤ 100000) (x : Int) (v : Value) (w : World) (h : IntAt w v l) :
    Calls Tryz.prog 159 #[v, .int .i64 x] w fun e w' => ∃ u, e = .returned u ∧ IntOwn w.heap.size w' u (l ++ [x]) ∧ Below w.heap.size w w' := by
  obtain ⟨ao, b, off, cap, hs⟩ := h
  have hv := hs.hv
  subst hv
  have HS : Hid (SlAt w 1 IntC (.slice ao l.length cap) l ao b off cap) := hs
  clear hs
  obtain ⟨i0, hi, hz0, hz1, hz2⟩ := info_parts Tryz.info3
  have HI : Hid (Tryz.prog.info? 3 = some i0 ∧ i0.zero = some (.int .i64 0) ∧ i0.size = 1 ∧ i0.bytes = 8) := ⟨hi, hz0, hz1, hz2⟩
  clear hi hz0 hz1 hz2
  go_enter Tryz.func159, Tryz.ntmps159
  go_wp2_with (at_builtin; refine append_new _ rfl (.tmp 6) (.tmp 7) 26 rfl w.heap.size 3 i0 (.int .i64 0) 1 8 Tryz.underlying26 HI.out.1 HI.out.2.1 HI.out.2.2.1 HI.out.2.2.2 rfl (by decide) (.slice none 0 0) 0 [] rfl (World.ownsRow_nil _ _ _ _) ao l.length cap (l.map (Value.int .i64)) rfl (fun h => ⟨by rw [(HS.out.hn h).1]; rfl, (HS.out.hn h).2⟩) (by simp) (int_cells HS.out) (ints_oneCell .i64 l) (by unfold maxLen; omega) (by omega) (Nat.le_refl _) ?_)
  intro v1 w1 hown1 hgrow1 _
  have hb1 : Below w.heap.size w w1 := Below.grown (Below.refl _ _) hgrow1 (Nat.le_refl _) (fun kk e => by simp [Value.ownBlock] at e)
  have hw1 : w1.ownsRow w.heap.size 3 1 v1 l.length (l.map (Value.int .i64)) := by simpa using hown1
  have hs1 := hb1.size
  clear hown1 hgrow1
  go_wp2_with (at_builtin; refine append_new _ rfl (.tmp 9) (.tmp 11) 26 rfl w.heap.size 3 i0 (.int .i64 0) 1 8 Tryz.underlying26 HI.out.1 HI.out.2.1 HI.out.2.2.1 HI.out.2.2.2 rfl (by decide) v1 l.length (l.map (Value.int .i64)) rfl (hw1.alloc _) (some ⟨w1.heap.size, 0, none⟩) 1 1 [.int .i64 x] rfl (fun h => by cases h) rfl (fun ad had => by cases had; exact new_one rfl) (by simp [Value.oneCell']) (by unfold maxLen; omega) (by omega) (by simp; omega) ?_)
  intro v2 w2 hown2 hgrow2 _
  have hb2 : Below w.heap.size w w2 := Below.grown (hb1.alloc hs1 _) hgrow2 (by simp; omega) (fun kk e => (hw1.lt kk e).1)
  have hw2 : w2.ownsRow w.heap.size 3 1 v2 (l ++ [x]).length ((l ++ [x]).map (Value.int .i64)) := own_snoc hown2
  clear hown2 hgrow2 hw1
  go_wp2_with fail
  go_ret
  exact ⟨_, rfl, owns_own hw2, hb2⟩

end Go.Proofs.YtomijmikkbhgmaaGreat

namespace Go.Proofs.YtomijmikkbhgmaaGreat

def restG : List Int → Int → List Int
  | [], _ => []
  | x :: l, w => if x == w then l else restG l w
/-- What stands behind a write (-1: everything) in a list. -/
def restL (l : List Int) (w : Int) : List Int := if w == -1 then l else restG l w

theorem restG_len (l : List Int) (w : Int) : (restG l w).length ≤ l.length := by
  induction l with
  | nil => simp [restG]
  | cons x l ih => unfold restG; split <;> simp <;> omega
theorem restL_len (l : List Int) (w : Int) : (restL l w).length ≤ l.length := by
  unfold restL; split
  · exact Nat.le_refl _
  · exact restG_len l w

theorem restG_mem {l : List Int} {w v : Int} (h : v ∈ restG l w) : v ∈ l := by
  induction l with
  | nil => simp [restG] at h
  | cons x l ih =>
    unfold restG at h
    split at h
    · exact List.mem_cons_of_mem _ h
    · exact List.mem_cons_of_mem _ (ih h)
theorem restL_mem {l : List Int} {w v : Int} (h : v ∈ restL l w) : v ∈ l := by
  unfold restL at h
  split at h
  · exact h
  · exact restG_mem h

def fanL (f : Int) (l : List Int) : List (Int × Int) := l.map fun b => (f, b)

def tailsL : List Int → List (Int × Int)
  | [] => []
  | a :: l => fanL a l ++ tailsL l

def ordAt (x : Exe) (loc : Int) : List Int := x.order.getD loc.toNat []

/-- The arrows that have to do with one read. -/
def arw1 (x : Exe) (q : (Nat × Evt) × Int) : List (Int × Int) :=
  (if q.2 == -1 then [] else [(q.2, (q.1.1 : Int))]) ++ fanL (q.1.1 : Int) (restL (ordAt x q.1.2.loc) q.2)

def arwL (E : List Evt) (x : Exe) : List (Int × Int) := ((rdsX E 0).zip x.from').flatMap (arw1 x) ++ x.order.flatMap tailsL

theorem fanL_len (f : Int) (l : List Int) : (fanL f l).length = l.length := List.length_map ..
theorem fanL_mem {f : Int} {l : List Int} {p : Int × Int} : p ∈ fanL f l ↔ p.1 = f ∧ p.2 ∈ l := by
  unfold fanL
  rw [List.mem_map]
  constructor
  · rintro ⟨b, hb, rfl⟩; exact ⟨rfl, hb⟩
  · rintro ⟨h1, h2⟩; exact ⟨p.2, h2, by rw [← h1]⟩

theorem tailsL_len (l : List Int) : (tailsL l).length ≤ l.length * l.length := by
  induction l with
  | nil => simp [tailsL]
  | cons a l ih =>
    unfold tailsL
    rw [List.length_append, fanL_len, List.length_cons, Nat.mul_add, Nat.add_mul]
    omega

theorem tailsL_mem {l : List Int} {p : Int × Int} (h : p ∈ tailsL l) : p.1 ∈ l ∧ p.2 ∈ l := by
  induction l with
  | nil => simp [tailsL] at h
  | cons a l ih =>
    unfold tailsL at h
    rcases List.mem_append.1 h with h | h
    · obtain ⟨h1, h2⟩ := fanL_mem.1 h
      exact ⟨by rw [h1]; exact List.mem_cons_self .., List.mem_cons_of_mem _ h2⟩
    · exact ⟨List.mem_cons_of_mem _ (ih h).1, List.mem_cons_of_mem _ (ih h).2⟩

end Go.Proofs.YtomijmikkbhgmaaGreat
