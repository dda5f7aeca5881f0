import Derived.Test.YtomijmikkbhgmaaGreatT2
namespace Go.Proofs.YtomijmikkbhgmaaGreat

/-- All arrows lead between events. -/
def Arws (n : Nat) (A : List (Int × Int)) : Prop := ∀ p ∈ A, ∃ a b : Nat, a < n ∧ b < n ∧ p = ((a : Int), (b : Int))

/-- To each event of the set an arrow leads from within it. -/
def Core (n : Nat) (A : List (Int × Int)) (S : Nat → Prop) : Prop := ∀ b, b < n → S b → ∃ a : Nat, a < n ∧ S a ∧ ((a : Int), (b : Int)) ∈ A

def Cyc (n : Nat) (A : List (Int × Int)) : Prop := ∃ S : Nat → Prop, (∃ b, b < n ∧ S b) ∧ Core n A S

theorem Cyc.mono {n : Nat} {A B : List (Int × Int)} (h : Cyc n A) (hs : ∀ p ∈ A, p ∈ B) : Cyc n B := by
  obtain ⟨S, h1, h2⟩ := h
  refine ⟨S, h1, fun b hb hS => ?_⟩
  obtain ⟨a, k1, k2, k3⟩ := h2 b hb hS
  exact ⟨a, k1, k2, hs _ k3⟩

/-- Does an arrow lead to an event from one that is still there? -/
def ldB (g : Nat → Bool) (to : Int) (A : List (Int × Int)) : Bool := A.any fun p => p.2 == to && !g p.1.toNat

theorem ldB_iff {n : Nat} {A : List (Int × Int)} (hA : Arws n A) (g : Nat → Bool) (b : Nat) : ldB g (b : Int) A = true ↔ ∃ a : Nat, a < n ∧ g a = false ∧ ((a : Int), (b : Int)) ∈ A := by
  unfold ldB
  rw [List.any_eq_true]
  constructor
  · rintro ⟨p, hp, h⟩
    obtain ⟨a, c, ha, _, rfl⟩ := hA p hp
    simp only [Bool.and_eq_true, beq_iff_eq, Bool.not_eq_true', Int.toNat_natCast] at h
    obtain ⟨h1, h2⟩ := h
    rw [h1] at hp
    exact ⟨a, ha, h2, hp⟩
  · rintro ⟨a, _, h2, h3⟩
    exact ⟨_, h3, by simp [h2]⟩

/-- How many are still there. -/
def stay (n : Nat) (g : Nat → Bool) : Nat := ((List.range n).filter fun i => !g i).length

def take1 (g : Nat → Bool) (i : Nat) : Nat → Bool := fun j => if j = i then true else g j

theorem stay_take {n : Nat} {g : Nat → Bool} {i : Nat} (hi : i < n) (hg : g i = false) : stay n (take1 g i) + 1 = stay n g := by
  unfold stay take1
  induction n with
  | zero => omega
  | succ n ih =>
    rw [List.range_succ, List.filter_append, List.filter_append, List.length_append, List.length_append]
    by_cases e : i = n
    · subst e
      have h1 : (List.range i).filter (fun j => !(if j = i then true else g j)) = (List.range i).filter (fun j => !g j) := by
        refine List.filter_congr fun j hj => ?_
        have : j < i := by simpa using hj
        rw [if_neg (by omega)]
      rw [h1]
      simp [hg]
    · have := ih (by omega)
      have h2 : ¬ n = i := fun h => e h.symm
      simp only [List.filter_cons, List.filter_nil, if_neg h2]
      omega

theorem stay_zero {n : Nat} {g : Nat → Bool} (h : stay n g = 0) : ∀ i, i < n → g i = true := by
  intro i hi
  cases hg : g i
  · have := stay_take hi hg; omega
  · rfl

theorem stay_all (n : Nat) : stay n (fun _ => false) = n := by
  show ((List.range n).filter fun _ => true).length = n
  rw [List.filter_eq_self.2 (fun _ _ => rfl), List.length_range]

theorem stay_le (n : Nat) (g : Nat → Bool) : stay n g ≤ n := by
  unfold stay
  have := List.length_filter_le (fun i => !g i) (List.range n)
  simpa using this

theorem stay_pos {n : Nat} {g : Nat → Bool} (h : 0 < stay n g) : ∃ i, i < n ∧ g i = false := by
  unfold stay at h
  obtain ⟨i, hi⟩ := List.exists_mem_of_length_pos h
  rw [List.mem_filter] at hi
  exact ⟨i, by simpa using hi.1, by simpa using hi.2⟩

/-- Nothing more can be taken away. -/
def Stable (n : Nat) (A : List (Int × Int)) (g : Nat → Bool) : Prop := ∀ b, b < n → g b = false → ldB g (b : Int) A = true

/-- No set that keeps itself has lost anything. -/
def Safe (n : Nat) (A : List (Int × Int)) (g : Nat → Bool) : Prop := ∀ S, Core n A S → ∀ b, b < n → S b → g b = false

theorem Safe.start (n : Nat) (A : List (Int × Int)) : Safe n A (fun _ => false) := fun _ _ _ _ _ => rfl

theorem Safe.take {n : Nat} {A : List (Int × Int)} {g : Nat → Bool} (hA : Arws n A) (h : Safe n A g) {i : Nat} (hl : ldB g (i : Int) A = false) : Safe n A (take1 g i) := by
  intro S hS b hb hSb
  unfold take1
  by_cases e : b = i
  · subst e
    obtain ⟨a, ha, hSa, hm⟩ := hS b hb hSb
    have := (ldB_iff hA g b).2 ⟨a, ha, h S hS a ha hSa, hm⟩
    rw [hl] at this
    cases this
  · rw [if_neg e]; exact h S hS b hb hSb

/-- In the midst of a turn. -/
structure Turn (n : Nat) (A : List (Int × Int)) (t i : Nat) (g : Nat → Bool) : Prop where
  safe : Safe n A g
  step : stay n g + (t + 1) ≤ n ∨ (stay n g + t ≤ n ∧ ∀ b, b < i → g b = false → ldB g (b : Int) A = true) ∨ Stable n A g

theorem Turn.first (n : Nat) (A : List (Int × Int)) : Turn n A 0 0 (fun _ => false) := ⟨Safe.start n A, .inr (.inl ⟨by rw [stay_all]; omega, fun b hb => by omega⟩)⟩

theorem Turn.gone {n : Nat} {A : List (Int × Int)} {t i : Nat} {g : Nat → Bool} (h : Turn n A t i g) (hg : g i = true) : Turn n A t (i + 1) g := by
  refine ⟨h.safe, ?_⟩
  rcases h.step with h1 | ⟨h1, h2⟩ | h1
  · exact .inl h1
  · refine .inr (.inl ⟨h1, fun b hb hgb => ?_⟩)
    by_cases e : b = i
    · subst e; rw [hg] at hgb; cases hgb
    · exact h2 b (by omega) hgb
  · exact .inr (.inr h1)

theorem Turn.stays {n : Nat} {A : List (Int × Int)} {t i : Nat} {g : Nat → Bool} (h : Turn n A t i g) (hl : ldB g (i : Int) A = true) : Turn n A t (i + 1) g := by
  refine ⟨h.safe, ?_⟩
  rcases h.step with h1 | ⟨h1, h2⟩ | h1
  · exact .inl h1
  · refine .inr (.inl ⟨h1, fun b hb hgb => ?_⟩)
    by_cases e : b = i
    · subst e; exact hl
    · exact h2 b (by omega) hgb
  · exact .inr (.inr h1)

theorem Turn.takes {n : Nat} {A : List (Int × Int)} (hA : Arws n A) {t i : Nat} {g : Nat → Bool} (h : Turn n A t i g) (hi : i < n) (hg : g i = false) (hl : ldB g (i : Int) A = false) : Turn n A t (i + 1) (take1 g i) := by
  have hs := stay_take hi hg
  refine ⟨h.safe.take hA hl, ?_⟩
  rcases h.step with h1 | ⟨h1, _⟩ | h1
  · exact .inl (by omega)
  · exact .inl (by omega)
  · have := h1 i hi hg
    rw [hl] at this
    cases this

theorem Turn.next {n : Nat} {A : List (Int × Int)} {t : Nat} {g : Nat → Bool} (h : Turn n A t n g) : Turn n A (t + 1) 0 g := by
  refine ⟨h.safe, ?_⟩
  rcases h.step with h1 | ⟨_, h2⟩ | h1
  · exact .inr (.inl ⟨h1, fun b hb => by omega⟩)
  · exact .inr (.inr h2)
  · exact .inr (.inr h1)

theorem Turn.last {n : Nat} {A : List (Int × Int)} (hA : Arws n A) {g : Nat → Bool} (h : Turn n A n 0 g) : decide (0 < stay n g) = true ↔ Cyc n A := by
  rw [decide_eq_true_eq]
  constructor
  · intro h0
    rcases h.step with h1 | ⟨h1, _⟩ | h1
    · omega
    · omega
    · obtain ⟨i, hi, hgi⟩ := stay_pos h0
      refine ⟨fun b => g b = false, ⟨i, hi, hgi⟩, fun b hb hgb => ?_⟩
      exact (ldB_iff hA g b).1 (h1 b hb hgb)
  · rintro ⟨S, ⟨b, hb, hSb⟩, hS⟩
    refine Nat.pos_of_ne_zero fun h0 => ?_
    have h1 := stay_zero h0 b hb
    rw [h.safe S hS b hb hSb] at h1
    cases h1

end Go.Proofs.YtomijmikkbhgmaaGreat
