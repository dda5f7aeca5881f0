/- Numbered: as many as reads and writes ask for; each one an execution; each one ahead of the next. -/
import Derived.Test.YtbmlmplbhgahpaaMath3
namespace Go.Proofs.Ytbmlmplbhgahpaa

/-! writes of a location -/
theorem wrs_mem {E : List Evt} {k : Nat} {loc w : Int} (h : w ∈ wrs E k loc) : ∃ i x, E[i]? = some x ∧ w = ((k + i : Nat) : Int) ∧ x.kind = 1 ∧ x.loc = loc := by
  induction E generalizing k with
  | nil => simp [wrs] at h
  | cons y E ih =>
    have key : w ∈ wrs E (k + 1) loc → ∃ i x, (y :: E)[i]? = some x ∧ w = ((k + i : Nat) : Int) ∧ x.kind = 1 ∧ x.loc = loc := by
      intro hw
      obtain ⟨i, x, h1, h2, h3⟩ := ih hw
      exact ⟨i + 1, x, by simpa using h1, by rw [h2]; congr 1; omega, h3⟩
    unfold wrs at h
    split at h
    · rename_i hc
      rcases List.mem_cons.1 h with rfl | h
      · simp only [Bool.and_eq_true, beq_iff_eq] at hc
        exact ⟨0, y, rfl, rfl, hc.1, hc.2⟩
      · exact key h
    · exact key h

theorem wrs_sorted (E : List Evt) (k : Nat) (loc : Int) : (wrs E k loc).Pairwise (· < ·) := by
  induction E generalizing k with
  | nil => simp [wrs]
  | cons y E ih =>
    unfold wrs
    split
    · refine List.pairwise_cons.2 ⟨fun w hw => ?_, ih (k + 1)⟩
      obtain ⟨i, x, _, h2, _⟩ := wrs_mem hw
      omega
    · exact ih (k + 1)

/-- How often an event stands in the list of a location's writes. -/
theorem wrs_count {E : List Evt} {k i : Nat} {loc : Int} {x : Evt} (h : E[i]? = some x) : (wrs E k loc).count ((k + i : Nat) : Int) = if x.kind == 1 && x.loc == loc then 1 else 0 := by
  induction E generalizing k i with
  | nil => simp at h
  | cons y E ih =>
    cases i with
    | zero =>
      simp at h
      subst h
      have h0 : (wrs E (k + 1) loc).count ((k + 0 : Nat) : Int) = 0 := by
        refine List.count_eq_zero.2 fun hm => ?_
        obtain ⟨j, z, _, h2, _⟩ := wrs_mem hm
        omega
      unfold wrs
      split
      · rw [List.count_cons, h0]; simp
      · exact h0
    | succ i =>
      have h1 := ih (k := k + 1) (i := i) (by simpa using h)
      rw [show k + 1 + i = k + (i + 1) by omega] at h1
      unfold wrs
      split
      · rw [List.count_cons, h1, if_neg (show ¬ ((k : Int) == ((k + (i + 1) : Nat) : Int)) = true by simp; omega), Nat.add_zero]
      · exact h1

/-! the tally -/
def isW (x : Ins) : Bool := x.op == 0 || x.op == 1 || x.op == 3
def isR (x : Ins) : Bool := x.op == 2 || x.op == 3
def cwL (j : Int) (l : List Ins) : Nat := (l.filter fun x => isW x && x.loc == j).length
def crL (j : Int) (l : List Ins) : Nat := (l.filter fun x => isR x && x.loc == j).length
def cw (j : Int) : List (List Ins) → Nat
  | [] => 0
  | l :: T => cwL j l + cw j T
def cr (j : Int) : List (List Ins) → Nat
  | [] => 0
  | l :: T => crL j l + cr j T

def cE (k j : Int) (E : List Evt) : Nat := (E.filter fun x => x.kind == k && x.loc == j).length

theorem cE_append (k j : Int) (A B : List Evt) : cE k j (A ++ B) = cE k j A + cE k j B := by unfold cE; rw [List.filter_append, List.length_append]

theorem wrs_cE (E : List Evt) (k : Nat) (j : Int) : (wrs E k j).length = cE 1 j E := by
  induction E generalizing k with
  | nil => rfl
  | cons x E ih =>
    unfold wrs cE
    rw [List.filter_cons]
    split
    · rw [List.length_cons, List.length_cons, ih]; rfl
    · rw [ih]; rfl

theorem cE_kinds (i p : Nat) (x : Ins) (k j : Int) : cE k j (evsK i p x (kindsOf x.op)) = if x.loc == j then ((kindsOf x.op).filter fun q => q == k).length else 0 := by
  unfold cE evsK
  rw [List.filter_map, List.length_map]
  cases h : x.loc == j
  · simp [Function.comp_def, h]
  · simp [Function.comp_def, h]

theorem kinds_w (x : Ins) : ((kindsOf x.op).filter fun q => q == 1).length = if isW x then 1 else 0 := by
  unfold kindsOf isW
  repeat' split
  all_goals simp_all

theorem kinds_r (x : Ins) : ((kindsOf x.op).filter fun q => q == 0).length = if isR x then 1 else 0 := by
  unfold kindsOf isR
  repeat' split
  all_goals first
    | (simp_all; done)
    | (simp_all; omega)

theorem cE_evsI_w (i : Nat) (l : List Ins) (p : Nat) (j : Int) : cE 1 j (evsI i l p) = cwL j l := by
  induction l generalizing p with
  | nil => rfl
  | cons x l ih =>
    rw [evsI, cE_append, ih, cE_kinds, kinds_w]
    unfold cwL
    rw [List.filter_cons]
    cases isW x <;> cases x.loc == j <;> simp <;> omega

theorem cE_evsI_r (i : Nat) (l : List Ins) (p : Nat) (j : Int) : cE 0 j (evsI i l p) = crL j l := by
  induction l generalizing p with
  | nil => rfl
  | cons x l ih =>
    rw [evsI, cE_append, ih, cE_kinds, kinds_r]
    unfold crL
    rw [List.filter_cons]
    cases isR x <;> cases x.loc == j <;> simp <;> omega

theorem cE_evsT_w (T : List (List Ins)) (i : Nat) (j : Int) : cE 1 j (evsT T i) = cw j T := by
  induction T generalizing i with
  | nil => rfl
  | cons l T ih => rw [evsT, cE_append, cE_evsI_w, ih]; rfl

theorem cE_evsT_r (T : List (List Ins)) (i : Nat) (j : Int) : cE 0 j (evsT T i) = cr j T := by
  induction T generalizing i with
  | nil => rfl
  | cons l T ih => rw [evsT, cE_append, cE_evsI_r, ih]; rfl

/-! how many -/
def remL : List (Nat × Nat) → Nat
  | [] => 1
  | (w, r) :: l => (w + 1) ^ r * (fac w * remL l)

theorem remL_pos (l : List (Nat × Nat)) : 1 ≤ remL l := by
  induction l with
  | nil => exact Nat.le_refl 1
  | cons p l ih => exact Nat.mul_le_mul (Nat.pow_pos (by omega)) (Nat.mul_le_mul (fac_pos _) ih)

def tly (T : List (List Ins)) : List (Nat × Nat) := [(cw 0 T, cr 0 T), (cw 1 T, cr 1 T), (cw 2 T, cr 2 T)]

theorem prodR_pow (E R : List Evt) (h : ∀ x ∈ R, locB x.loc = true) : prodR E R = ((wrs E 0 0).length + 1) ^ cE 0 0 R * (((wrs E 0 1).length + 1) ^ cE 0 1 R * ((wrs E 0 2).length + 1) ^ cE 0 2 R) := by
  induction R with
  | nil => simp [prodR, cE]
  | cons x R ih =>
    have hx := h x (List.mem_cons_self ..)
    have ih := ih (fun y hy => h y (List.mem_cons_of_mem _ hy))
    unfold prodR
    unfold cE at ih ⊢
    rw [List.filter_cons, List.filter_cons, List.filter_cons]
    cases hk : x.kind == 0
    · simpa using ih
    · unfold locB at hx
      simp only [Bool.and_eq_true, decide_eq_true_eq] at hx
      have h3 : x.loc = 0 ∨ x.loc = 1 ∨ x.loc = 2 := by omega
      rw [ih]
      generalize hA : (wrs E 0 0).length = A at *
      generalize hB : (wrs E 0 1).length = B at *
      generalize hC : (wrs E 0 2).length = C at *
      rcases h3 with e | e | e
      · simp [e, hA, Nat.pow_succ]; rw [Nat.add_comm 1 A]; ac_rfl
      · simp [e, hB, Nat.pow_succ]; rw [Nat.add_comm 1 B]; ac_rfl
      · simp [e, hC, Nat.pow_succ]; rw [Nat.add_comm 1 C]; ac_rfl

theorem sizeN_remL (T : List (List Ins)) (h : ∀ x ∈ evsT T 0, locB x.loc = true) : sizeN (evsT T 0) = remL (tly T) := by
  unfold sizeN tly remL remL remL remL
  rw [prodR_pow _ _ h, wrs_cE, wrs_cE, wrs_cE, cE_evsT_w, cE_evsT_w, cE_evsT_w, cE_evsT_r, cE_evsT_r, cE_evsT_r, Nat.mul_one]
  ac_rfl

/-! what Check says of locations -/
theorem mayB_loc {x : Ins} (h : mayB x = true) : locB x.loc = true := by
  unfold mayB at h
  have h0 : (x.loc == 0) = true → locB x.loc = true := by intro e; have : x.loc = 0 := by simpa using e
                                                          rw [this]; rfl
  repeat' split at h
  all_goals first
    | (simp only [Bool.and_eq_true] at h; exact h.1.1.1)
    | (simp only [Bool.and_eq_true] at h; exact h0 h.1.1.1)
    | simp at h

theorem badAt_none {l : List Ins} {j : Nat} (h : badAt l j = none) : ∀ x ∈ l, mayB x = true := by
  induction l generalizing j with
  | nil => simp
  | cons y l ih =>
    cases hy : mayB y
    · rw [badAt_bad hy] at h; cases h
    · rw [badAt_ok hy] at h
      intro x hx
      rcases List.mem_cons.1 hx with rfl | hx
      · exact hy
      · exact ih h x hx

theorem insF_none {T : List (List Ins)} {i : Nat} (h : insF T i = none) : ∀ l ∈ T, ∀ x ∈ l, locB x.loc = true := by
  induction T generalizing i with
  | nil => simp
  | cons l T ih =>
    cases hb : badAt l 0 with
    | some j => rw [insF_bad hb] at h; cases h
    | none =>
      rw [insF_ok hb] at h
      intro m hm x hx
      rcases List.mem_cons.1 hm with rfl | hm
      · exact mayB_loc (badAt_none hb x hx)
      · exact ih h m hm x hx

theorem chk_locs {T : List (List Ins)} {c : List Atm} (h : ((chk T c).1 == 0) = true) : ∀ l ∈ T, ∀ x ∈ l, locB x.loc = true := by
  unfold chk at h
  cases hs : sizeB T c
  · rw [hs] at h; simp at h
  · rw [hs] at h
    cases hi : insF T 0 with
    | none => exact insF_none hi
    | some p => rw [hi] at h; simp at h

theorem evsI_locs {i : Nat} {l : List Ins} {p : Nat} (h : ∀ x ∈ l, locB x.loc = true) : ∀ x ∈ evsI i l p, locB x.loc = true := by
  induction l generalizing p with
  | nil => simp [evsI]
  | cons y l ih =>
    intro x hx
    rw [evsI] at hx
    rcases List.mem_append.1 hx with hx | hx
    · obtain ⟨k, _, rfl⟩ := List.mem_map.1 hx
      exact h y (List.mem_cons_self ..)
    · exact ih (fun z hz => h z (List.mem_cons_of_mem _ hz)) x hx

theorem evsT_locs {T : List (List Ins)} {i : Nat} (h : ∀ l ∈ T, ∀ x ∈ l, locB x.loc = true) : ∀ x ∈ evsT T i, locB x.loc = true := by
  induction T generalizing i with
  | nil => simp [evsT]
  | cons l T ih =>
    intro x hx
    rw [evsT] at hx
    rcases List.mem_append.1 hx with hx | hx
    · exact evsI_locs (h l (List.mem_cons_self ..)) x hx
    · exact ih (fun m hm => h m (List.mem_cons_of_mem _ hm)) x hx

end Go.Proofs.Ytbmlmplbhgahpaa
