/- The document's answers for P3 to P5 as plain functions on lists and numbers: no program, no world. -/
namespace Go.Proofs.Ytbmlmplbhgahpaa

structure Ins where
  (op loc reg val mode : Int)

structure Atm where
  (thread at' val : Int)

structure Evt where
  (thread place kind loc : Int)
  ins : Ins

/-! P3: what may be -/
def locB (n : Int) : Bool := decide (0 ≤ n) && decide (n < 3)
def valB (n : Int) : Bool := decide (0 ≤ n) && decide (n ≤ 3)
def wModeB (n : Int) : Bool := n == 0 || n == 2
def rModeB (n : Int) : Bool := n == 0 || n == 1
def fModeB (n : Int) : Bool := n == 0 || n == 1 || n == 2

def mayB (x : Ins) : Bool :=
  if x.op == 0 then locB x.loc && x.reg == 0 && valB x.val && wModeB x.mode
  else if x.op == 1 then locB x.loc && locB x.reg && x.val == 0 && wModeB x.mode
  else if x.op == 2 then locB x.loc && locB x.reg && x.val == 0 && rModeB x.mode
  else if x.op == 3 then locB x.loc && locB x.reg && valB x.val && (rModeB x.mode || wModeB x.mode)
  else if x.op == 4 then x.loc == 0 && x.reg == 0 && x.val == 0 && fModeB x.mode
  else if x.op == 5 || x.op == 6 || x.op == 7 then x.loc == 0 && x.reg == 0 && x.val == 0 && x.mode == 0
  else false

def atmB (a : Atm) (n : Int) : Bool :=
  valB a.val && (if a.thread == -1 then locB a.at' else decide (0 ≤ a.thread) && decide (a.thread < n) && locB a.at')

def lensB : List (List Ins) → Bool
  | [] => true
  | l :: T => decide (l.length ≤ 12) && lensB T

def sizeB (T : List (List Ins)) (c : List Atm) : Bool := decide (1 ≤ T.length) && decide (T.length ≤ 4) && lensB T && decide (c.length ≤ 6)

/-- The place of the first instruction that may not be. -/
def badAt : List Ins → Nat → Option Nat
  | [], _ => none
  | x :: l, j => if mayB x then badAt l (j + 1) else some j

def insF : List (List Ins) → Nat → Option Nat
  | [], _ => none
  | l :: T, i => match badAt l 0 with
    | some j => some (100 * i + j)
    | none => insF T (i + 1)

/-- Where a thread's sections are not well nested, or -1. -/
def nst : List Ins → Nat → Bool → Int
  | [], j, b => if b then j else -1
  | x :: l, j, b =>
    if x.op == 5 then (if b then j else nst l (j + 1) true)
    else if x.op == 6 then (if b then nst l (j + 1) false else j)
    else if x.op == 7 then (if b then j else nst l (j + 1) b)
    else nst l (j + 1) b

def nstF : List (List Ins) → Nat → Option Int
  | [], _ => none
  | l :: T, i => if 0 ≤ nst l 0 false then some (100 * i + nst l 0 false) else nstF T (i + 1)

def atmF : List Atm → Nat → Int → Option Nat
  | [], _, _ => none
  | a :: c, i, n => if atmB a n then atmF c (i + 1) n else some i

/-! P4: events -/
def kindsOf (op : Int) : List Int :=
  if op == 0 || op == 1 then [1] else if op == 2 then [0] else if op == 3 then [0, 1] else if op == 5 then [2] else if op == 6 then [3] else if op == 7 then [4, 5] else []

def evsK (i j : Nat) (x : Ins) (ks : List Int) : List Evt := ks.map fun k => ⟨i, j, k, x.loc, x⟩

def evsI (i : Nat) : List Ins → Nat → List Evt
  | [], _ => []
  | x :: l, j => evsK i j x (kindsOf x.op) ++ evsI i l (j + 1)

def evsT : List (List Ins) → Nat → List Evt
  | [], _ => []
  | l :: T, i => evsI i l 0 ++ evsT T (i + 1)

/-! P5: how many -/
def wrs : List Evt → Nat → Int → List Int
  | [], _, _ => []
  | x :: E, i, loc => if x.kind == 1 && x.loc == loc then (i : Int) :: wrs E (i + 1) loc else wrs E (i + 1) loc

def fac : Nat → Nat
  | 0 => 1
  | m + 1 => (m + 1) * fac m

def prodR (E : List Evt) : List Evt → Nat
  | [] => 1
  | x :: R => (if x.kind == 0 then 1 + (wrs E 0 x.loc).length else 1) * prodR E R

def sizeN (E : List Evt) : Nat := prodR E E * (fac (wrs E 0 0).length * (fac (wrs E 0 1).length * fac (wrs E 0 2).length))

def cap2 (n : Nat) : Nat := if 2000 < n then 2001 else n

def cntO (op : Int) : List (List Ins) → Nat
  | [] => 0
  | l :: T => (l.filter fun x => x.op == op).length + cntO op T

def cntK (k : Int) (E : List Evt) : Nat := (E.filter fun x => x.kind == k).length

def manyB (T : List (List Ins)) : Bool := decide (3 < cntO 5 T) || decide (2 < cntO 7 T) || decide (2000 < cap2 (sizeN (evsT T 0)))

/-- Check: the error and the place. -/
def chk (T : List (List Ins)) (c : List Atm) : Int × Int :=
  if sizeB T c then
    match insF T 0 with
    | some p => (2, p)
    | none => match nstF T 0 with
      | some p => (3, p)
      | none => match atmF c 0 T.length with
        | some p => (4, p)
        | none => if manyB T then (5, 0) else (0, 0)
  else (1, 0)

theorem nst_cons7 (x : Ins) (l : List Ins) (j : Nat) (b : Bool) : nst (x :: l) j b =
    if x.op == 5 then (if b then (j : Int) else nst l (j + 1) true)
    else if x.op == 7 then (if b then (j : Int) else nst l (j + 1) b)
    else if x.op == 6 then (if b then nst l (j + 1) false else (j : Int))
    else nst l (j + 1) b := by
  rw [nst]
  by_cases h6 : x.op = 6
  · simp [h6]
  · by_cases h7 : x.op = 7 <;> simp [h6, h7]

theorem insF_bad {l : List Ins} {j : Nat} (h : badAt l 0 = some j) (T : List (List Ins)) (k : Nat) : insF (l :: T) k = some (100 * k + j) := by rw [insF, h]
theorem insF_ok {l : List Ins} (h : badAt l 0 = none) (T : List (List Ins)) (k : Nat) : insF (l :: T) k = insF T (k + 1) := by rw [insF, h]
theorem badAt_bad {x : Ins} (h : mayB x = false) (l : List Ins) (j : Nat) : badAt (x :: l) j = some j := by rw [badAt, if_neg (by simp [h])]
theorem badAt_ok {x : Ins} (h : mayB x = true) (l : List Ins) (j : Nat) : badAt (x :: l) j = badAt l (j + 1) := by rw [badAt, if_pos h]
theorem nstF_bad {l : List Ins} (h : 0 ≤ nst l 0 false) (T : List (List Ins)) (k : Nat) : nstF (l :: T) k = some (100 * k + nst l 0 false) := by rw [nstF, if_pos h]
theorem nstF_ok {l : List Ins} (h : ¬ 0 ≤ nst l 0 false) (T : List (List Ins)) (k : Nat) : nstF (l :: T) k = nstF T (k + 1) := by rw [nstF, if_neg h]
theorem atmF_bad {a : Atm} {n : Int} (h : atmB a n = false) (c : List Atm) (i : Nat) : atmF (a :: c) i n = some i := by rw [atmF, if_neg (by simp [h])]
theorem atmF_ok {a : Atm} {n : Int} (h : atmB a n = true) (c : List Atm) (i : Nat) : atmF (a :: c) i n = atmF c (i + 1) n := by rw [atmF, if_pos h]

theorem nst_le (l : List Ins) (j : Nat) (b : Bool) : nst l j b ≤ j + l.length ∧ -1 ≤ nst l j b := by
  induction l generalizing j b with
  | nil => rw [nst]; split <;> simp <;> omega
  | cons x l ih =>
    have h1 := ih (j + 1) true; have h2 := ih (j + 1) false; have h3 := ih (j + 1) b
    rw [nst]
    simp only [List.length_cons]
    repeat' split
    all_goals omega

/-! small facts -/
theorem drop_cons {α : Type} {l : List α} {k : Nat} {x : α} (h : l[k]? = some x) : l.drop k = x :: l.drop (k + 1) := by
  obtain ⟨hk, rfl⟩ := List.getElem?_eq_some_iff.1 h
  exact List.drop_eq_getElem_cons hk

theorem take_snoc {α : Type} {l : List α} {k : Nat} {x : α} (h : l[k]? = some x) : l.take (k + 1) = l.take k ++ [x] := by
  obtain ⟨hk, rfl⟩ := List.getElem?_eq_some_iff.1 h
  exact List.take_succ_eq_append_getElem hk

theorem drop_nil {α : Type} {l : List α} {k : Nat} (h : ¬ k < l.length) : l.drop k = [] := List.drop_eq_nil_of_le (by omega)

theorem get_of_lt {α : Type} {l : List α} {k : Nat} (h : k < l.length) : ∃ x, l[k]? = some x := ⟨l[k], List.getElem?_eq_getElem h⟩

theorem lensB_get {T : List (List Ins)} (h : lensB T = true) {k : Nat} {l : List Ins} (hk : T[k]? = some l) : l.length ≤ 12 := by
  induction T generalizing k with
  | nil => simp at hk
  | cons a T ih =>
    simp only [lensB, Bool.and_eq_true, decide_eq_true_eq] at h
    cases k with
    | zero => simp at hk; subst hk; exact h.1
    | succ k => exact ih h.2 (by simpa using hk)

theorem cap2_le (n : Nat) : cap2 n ≤ 2001 := by unfold cap2; split <;> omega
theorem cap2_of_le {n : Nat} (h : n ≤ 2001) : cap2 n = n := by unfold cap2; split <;> omega
theorem cap2_mul (a f : Nat) (hf : 1 ≤ f) : cap2 (cap2 a * f) = cap2 (a * f) := by
  unfold cap2
  by_cases h : 2000 < a
  · have h1 : 2000 < 2001 * f := by have := Nat.mul_le_mul_left 2001 hf; omega
    have h2 : 2000 < a * f := by have := Nat.mul_le_mul_left a hf; omega
    rw [if_pos h, if_pos h1, if_pos h2]
  · rw [if_neg h]

theorem fac_pos (m : Nat) : 1 ≤ fac m := by
  induction m with
  | zero => exact Nat.le_refl 1
  | succ m ih => unfold fac; have := Nat.mul_le_mul (show 1 ≤ m + 1 by omega) ih; omega

theorem prodR_pos (E R : List Evt) : 1 ≤ prodR E R := by
  induction R with
  | nil => exact Nat.le_refl 1
  | cons x R ih =>
    unfold prodR
    have h1 : 1 ≤ (if x.kind == 0 then 1 + (wrs E 0 x.loc).length else 1) := by split <;> omega
    have := Nat.mul_le_mul h1 ih; omega

theorem wrs_len (E : List Evt) (i : Nat) (loc : Int) : (wrs E i loc).length ≤ E.length := by
  induction E generalizing i with
  | nil => simp [wrs]
  | cons x E ih =>
    unfold wrs
    have := ih (i + 1)
    split <;> simp <;> omega

theorem kindsOf_len (op : Int) : (kindsOf op).length ≤ 2 := by
  unfold kindsOf
  repeat' split
  all_goals simp

theorem evsI_len (i : Nat) (l : List Ins) (j : Nat) : (evsI i l j).length ≤ 2 * l.length := by
  induction l generalizing j with
  | nil => simp [evsI]
  | cons x l ih =>
    have := ih (j + 1); have := kindsOf_len x.op
    simp [evsI, evsK]; omega

theorem evsT_len (T : List (List Ins)) (i : Nat) (h : lensB T = true) : (evsT T i).length ≤ 24 * T.length := by
  induction T generalizing i with
  | nil => simp [evsT]
  | cons l T ih =>
    simp only [lensB, Bool.and_eq_true, decide_eq_true_eq] at h
    have := ih (i + 1) h.2; have := evsI_len i l 0
    simp [evsT]; omega

/-- The events that mark a section's begin are as many as the Enters. -/
theorem cntK_evsI (op k : Int) (hk : ∀ o : Int, ((kindsOf o).filter fun q => q == k).length = if o == op then 1 else 0) (i : Nat) (l : List Ins) (j : Nat) :
    cntK k (evsI i l j) = (l.filter fun x => x.op == op).length := by
  induction l generalizing j with
  | nil => rfl
  | cons x l ih =>
    have h1 := hk x.op
    have h2 : cntK k (evsK i j x (kindsOf x.op)) = if x.op == op then 1 else 0 := by
      rw [← h1]; unfold cntK evsK; rw [List.filter_map, List.length_map]; rfl
    have h3 := ih (j + 1)
    unfold cntK at h2 h3 ⊢
    rw [evsI, List.filter_append, List.length_append, h2, h3, List.filter_cons]
    cases x.op == op <;> simp <;> omega

theorem cntK_evsT (op k : Int) (hk : ∀ o : Int, ((kindsOf o).filter fun q => q == k).length = if o == op then 1 else 0) (T : List (List Ins)) (i : Nat) :
    cntK k (evsT T i) = cntO op T := by
  induction T generalizing i with
  | nil => rfl
  | cons l T ih =>
    have h1 := cntK_evsI op k hk i l 0
    have h2 := ih (i + 1)
    unfold cntK at h1 h2 ⊢
    rw [evsT, List.filter_append, List.length_append, h1, h2, cntO]

theorem kinds_enter (o : Int) : ((kindsOf o).filter fun q => q == 2).length = if o == 5 then 1 else 0 := by
  unfold kindsOf
  repeat' split
  all_goals simp_all

theorem kinds_sync (o : Int) : ((kindsOf o).filter fun q => q == 4).length = if o == 7 then 1 else 0 := by
  unfold kindsOf
  repeat' split
  all_goals simp_all

end Go.Proofs.Ytbmlmplbhgahpaa
