import Derived.WalkKit
import Derived.WalkSpells
import Derived.WalkLawsBesides
import Derived.Test.YtomijmikkbhgmaaGreatRows
import Derived.Deep.Light
namespace Go.Proofs.YtomijmikkbhgmaaGreat

structure Ins where
  (op loc reg val mode : Int)

structure Atm where
  (thread at' val : Int)

structure Evt where
  (thread place kind loc : Int)
  ins : Ins

/-! P3: what may be -/
def locB (n : Int) : Bool := decide (0 ≤ n) && decide (n < 3)
def valB (n : Int) : Bool := decide (0 ≤ n) && decide (n ≤ 3)
def wModeB (n : Int) : Bool := n == 0 || n == 2
def rModeB (n : Int) : Bool := n == 0 || n == 1
def fModeB (n : Int) : Bool := n == 0 || n == 1 || n == 2

def mayB (x : Ins) : Bool :=
  if x.op == 0 then locB x.loc && x.reg == 0 && valB x.val && wModeB x.mode
  else if x.op == 1 then locB x.loc && locB x.reg && x.val == 0 && wModeB x.mode
  else if x.op == 2 then locB x.loc && locB x.reg && x.val == 0 && rModeB x.mode
  else if x.op == 3 then locB x.loc && locB x.reg && valB x.val && (rModeB x.mode || wModeB x.mode)
  else if x.op == 4 then x.loc == 0 && x.reg == 0 && x.val == 0 && fModeB x.mode
  else if x.op == 5 || x.op == 6 || x.op == 7 then x.loc == 0 && x.reg == 0 && x.val == 0 && x.mode == 0
  else false

def atmB (a : Atm) (n : Int) : Bool :=
  valB a.val && (if a.thread == -1 then locB a.at' else decide (0 ≤ a.thread) && decide (a.thread < n) && locB a.at')

def lensB : List (List Ins) → Bool
  | [] => true
  | l :: T => decide (l.length ≤ 12) && lensB T

def sizeB (T : List (List Ins)) (c : List Atm) : Bool := decide (1 ≤ T.length) && decide (T.length ≤ 4) && lensB T && decide (c.length ≤ 6)

/-- The place of the first instruction that may not be. -/
def badAt : List Ins → Nat → Option Nat
  | [], _ => none
  | x :: l, j => if mayB x then badAt l (j + 1) else some j

def insF : List (List Ins) → Nat → Option Nat
  | [], _ => none
  | l :: T, i => match badAt l 0 with
    | some j => some (100 * i + j)
    | none => insF T (i + 1)

/-- Where a thread's sections are not well nested, or -1. -/
def nst : List Ins → Nat → Bool → Int
  | [], j, b => if b then j else -1
  | x :: l, j, b =>
    if x.op == 5 then (if b then j else nst l (j + 1) true)
    else if x.op == 6 then (if b then nst l (j + 1) false else j)
    else if x.op == 7 then (if b then j else nst l (j + 1) b)
    else nst l (j + 1) b

def nstF : List (List Ins) → Nat → Option Int
  | [], _ => none
  | l :: T, i => if 0 ≤ nst l 0 false then some (100 * i + nst l 0 false) else nstF T (i + 1)

def atmF : List Atm → Nat → Int → Option Nat
  | [], _, _ => none
  | a :: c, i, n => if atmB a n then atmF c (i + 1) n else some i

/-! P4: events -/
def kindsOf (op : Int) : List Int :=
  if op == 0 || op == 1 then [1] else if op == 2 then [0] else if op == 3 then [0, 1] else if op == 5 then [2] else if op == 6 then [3] else if op == 7 then [4, 5] else []

def evsK (i j : Nat) (x : Ins) (ks : List Int) : List Evt := ks.map fun k => ⟨i, j, k, x.loc, x⟩

def evsI (i : Nat) : List Ins → Nat → List Evt
  | [], _ => []
  | x :: l, j => evsK i j x (kindsOf x.op) ++ evsI i l (j + 1)

def evsT : List (List Ins) → Nat → List Evt
  | [], _ => []
  | l :: T, i => evsI i l 0 ++ evsT T (i + 1)

/-! P5: how many -/
def wrs : List Evt → Nat → Int → List Int
  | [], _, _ => []
  | x :: E, i, loc => if x.kind == 1 && x.loc == loc then (i : Int) :: wrs E (i + 1) loc else wrs E (i + 1) loc

def fac : Nat → Nat
  | 0 => 1
  | m + 1 => (m + 1) * fac m

def prodR (E : List Evt) : List Evt → Nat
  | [] => 1
  | x :: R => (if x.kind == 0 then 1 + (wrs E 0 x.loc).length else 1) * prodR E R

def sizeN (E : List Evt) : Nat := prodR E E * (fac (wrs E 0 0).length * (fac (wrs E 0 1).length * fac (wrs E 0 2).length))

def cap2 (n : Nat) : Nat := if 2000 < n then 2001 else n

def cntO (op : Int) : List (List Ins) → Nat
  | [] => 0
  | l :: T => (l.filter fun x => x.op == op).length + cntO op T

def cntK (k : Int) (E : List Evt) : Nat := (E.filter fun x => x.kind == k).length

def manyB (T : List (List Ins)) : Bool := decide (3 < cntO 5 T) || decide (2 < cntO 7 T) || decide (2000 < cap2 (sizeN (evsT T 0)))

/-- Check: the error and the place. -/
def chk (T : List (List Ins)) (c : List Atm) : Int × Int :=
  if sizeB T c then
    match insF T 0 with
    | some p => (2, p)
    | none => match nstF T 0 with
      | some p => (3, p)
      | none => match atmF c 0 T.length with
        | some p => (4, p)
        | none => if manyB T then (5, 0) else (0, 0)
  else (1, 0)

theorem nst_cons7 (x : Ins) (l : List Ins) (j : Nat) (b : Bool) : nst (x :: l) j b =
    if x.op == 5 then (if b then (j : Int) else nst l (j + 1) true)
    else if x.op == 7 then (if b then (j : Int) else nst l (j + 1) b)
    else if x.op == 6 then (if b then nst l (j + 1) false else (j : Int))
    else nst l (j + 1) b := by
  rw [nst]
  by_cases h6 : x.op = 6
  · simp [h6]
  · by_cases h7 : x.op = 7 <;> simp [h6, h7]

theorem insF_bad {l : List Ins} {j : Nat} (h : badAt l 0 = some j) (T : List (List Ins)) (k : Nat) : insF (l :: T) k = some (100 * k + j) := by rw [insF, h]
theorem insF_ok {l : List Ins} (h : badAt l 0 = none) (T : List (List Ins)) (k : Nat) : insF (l :: T) k = insF T (k + 1) := by rw [insF, h]
theorem badAt_bad {x : Ins} (h : mayB x = false) (l : List Ins) (j : Nat) : badAt (x :: l) j = some j := by rw [badAt, if_neg (by simp [h])]
theorem badAt_ok {x : Ins} (h : mayB x = true) (l : List Ins) (j : Nat) : badAt (x :: l) j = badAt l (j + 1) := by rw [badAt, if_pos h]
theorem nstF_bad {l : List Ins} (h : 0 ≤ nst l 0 false) (T : List (List Ins)) (k : Nat) : nstF (l :: T) k = some (100 * k + nst l 0 false) := by rw [nstF, if_pos h]
theorem nstF_ok {l : List Ins} (h : ¬ 0 ≤ nst l 0 false) (T : List (List Ins)) (k : Nat) : nstF (l :: T) k = nstF T (k + 1) := by rw [nstF, if_neg h]
theorem atmF_bad {a : Atm} {n : Int} (h : atmB a n = false) (c : List Atm) (i : Nat) : atmF (a :: c) i n = some i := by rw [atmF, if_neg (by simp [h])]
theorem atmF_ok {a : Atm} {n : Int} (h : atmB a n = true) (c : List Atm) (i : Nat) : atmF (a :: c) i n = atmF c (i + 1) n := by rw [atmF, if_pos h]

theorem nst_le (l : List Ins) (j : Nat) (b : Bool) : nst l j b ≤ j + l.length ∧ -1 ≤ nst l j b := by
  induction l generalizing j b with
  | nil => rw [nst]; split <;> simp <;> omega
  | cons x l ih =>
    have h1 := ih (j + 1) true; have h2 := ih (j + 1) false; have h3 := ih (j + 1) b
    rw [nst]
    simp only [List.length_cons]
    repeat' split
    all_goals omega

/-! small facts -/
theorem drop_cons {α : Type} {l : List α} {k : Nat} {x : α} (h : l[k]? = some x) : l.drop k = x :: l.drop (k + 1) := by
  obtain ⟨hk, rfl⟩ := List.getElem?_eq_some_iff.1 h
  exact List.drop_eq_getElem_cons hk

theorem take_snoc {α : Type} {l : List α} {k : Nat} {x : α} (h : l[k]? = some x) : l.take (k + 1) = l.take k ++ [x] := by
  obtain ⟨hk, rfl⟩ := List.getElem?_eq_some_iff.1 h
  exact List.take_succ_eq_append_getElem hk

theorem drop_nil {α : Type} {l : List α} {k : Nat} (h : ¬ k < l.length) : l.drop k = [] := List.drop_eq_nil_of_le (by omega)

theorem get_of_lt {α : Type} {l : List α} {k : Nat} (h : k < l.length) : ∃ x, l[k]? = some x := ⟨l[k], List.getElem?_eq_getElem h⟩

theorem lensB_get {T : List (List Ins)} (h : lensB T = true) {k : Nat} {l : List Ins} (hk : T[k]? = some l) : l.length ≤ 12 := by
  induction T generalizing k with
  | nil => simp at hk
  | cons a T ih =>
    simp only [lensB, Bool.and_eq_true, decide_eq_true_eq] at h
    cases k with
    | zero => simp at hk; subst hk; exact h.1
    | succ k => exact ih h.2 (by simpa using hk)

theorem cap2_le (n : Nat) : cap2 n ≤ 2001 := by unfold cap2; split <;> omega
theorem cap2_of_le {n : Nat} (h : n ≤ 2001) : cap2 n = n := by unfold cap2; split <;> omega
theorem cap2_mul (a f : Nat) (hf : 1 ≤ f) : cap2 (cap2 a * f) = cap2 (a * f) := by
  unfold cap2
  by_cases h : 2000 < a
  · have h1 : 2000 < 2001 * f := by have := Nat.mul_le_mul_left 2001 hf; omega
    have h2 : 2000 < a * f := by have := Nat.mul_le_mul_left a hf; omega
    rw [if_pos h, if_pos h1, if_pos h2]
  · rw [if_neg h]

theorem fac_pos (m : Nat) : 1 ≤ fac m := by
  induction m with
  | zero => exact Nat.le_refl 1
  | succ m ih => unfold fac; have := Nat.mul_le_mul (show 1 ≤ m + 1 by omega) ih; omega

theorem prodR_pos (E R : List Evt) : 1 ≤ prodR E R := by
  induction R with
  | nil => exact Nat.le_refl 1
  | cons x R ih =>
    unfold prodR
    have h1 : 1 ≤ (if x.kind == 0 then 1 + (wrs E 0 x.loc).length else 1) := by split <;> omega
    have := Nat.mul_le_mul h1 ih; omega

theorem wrs_len (E : List Evt) (i : Nat) (loc : Int) : (wrs E i loc).length ≤ E.length := by
  induction E generalizing i with
  | nil => simp [wrs]
  | cons x E ih =>
    unfold wrs
    have := ih (i + 1)
    split <;> simp <;> omega

theorem kindsOf_len (op : Int) : (kindsOf op).length ≤ 2 := by
  unfold kindsOf
  repeat' split
  all_goals simp

theorem evsI_len (i : Nat) (l : List Ins) (j : Nat) : (evsI i l j).length ≤ 2 * l.length := by
  induction l generalizing j with
  | nil => simp [evsI]
  | cons x l ih =>
    have := ih (j + 1); have := kindsOf_len x.op
    simp [evsI, evsK]; omega

theorem evsT_len (T : List (List Ins)) (i : Nat) (h : lensB T = true) : (evsT T i).length ≤ 24 * T.length := by
  induction T generalizing i with
  | nil => simp [evsT]
  | cons l T ih =>
    simp only [lensB, Bool.and_eq_true, decide_eq_true_eq] at h
    have := ih (i + 1) h.2; have := evsI_len i l 0
    simp [evsT]; omega

/-- The events that mark a section's begin are as many as the Enters. -/
theorem cntK_evsI (op k : Int) (hk : ∀ o : Int, ((kindsOf o).filter fun q => q == k).length = if o == op then 1 else 0) (i : Nat) (l : List Ins) (j : Nat) :
    cntK k (evsI i l j) = (l.filter fun x => x.op == op).length := by
  induction l generalizing j with
  | nil => rfl
  | cons x l ih =>
    have h1 := hk x.op
    have h2 : cntK k (evsK i j x (kindsOf x.op)) = if x.op == op then 1 else 0 := by
      rw [← h1]; unfold cntK evsK; rw [List.filter_map, List.length_map]; rfl
    have h3 := ih (j + 1)
    unfold cntK at h2 h3 ⊢
    rw [evsI, List.filter_append, List.length_append, h2, h3, List.filter_cons]
    cases x.op == op <;> simp <;> omega

theorem cntK_evsT (op k : Int) (hk : ∀ o : Int, ((kindsOf o).filter fun q => q == k).length = if o == op then 1 else 0) (T : List (List Ins)) (i : Nat) :
    cntK k (evsT T i) = cntO op T := by
  induction T generalizing i with
  | nil => rfl
  | cons l T ih =>
    have h1 := cntK_evsI op k hk i l 0
    have h2 := ih (i + 1)
    unfold cntK at h1 h2 ⊢
    rw [evsT, List.filter_append, List.length_append, h1, h2, cntO]

theorem kinds_enter (o : Int) : ((kindsOf o).filter fun q => q == 2).length = if o == 5 then 1 else 0 := by
  unfold kindsOf
  repeat' split
  all_goals simp_all

theorem kinds_sync (o : Int) : ((kindsOf o).filter fun q => q == 4).length = if o == 7 then 1 else 0 := by
  unfold kindsOf
  repeat' split
  all_goals simp_all

end Go.Proofs.YtomijmikkbhgmaaGreat

namespace Go.Proofs.YtomijmikkbhgmaaGreat
open Go.RowKit

/-- Cells of an instruction at an address. -/
structure InsC (w : World) (b off : Nat) (x : Ins) : Prop where
  c0 : w.cell? ⟨b, off, none⟩ = some (.int .i64 x.op)
  c1 : w.cell? ⟨b, off + 1, none⟩ = some (.int .i64 x.loc)
  c2 : w.cell? ⟨b, off + 2, none⟩ = some (.int .i64 x.reg)
  c3 : w.cell? ⟨b, off + 3, none⟩ = some (.int .i64 x.val)
  c4 : w.cell? ⟨b, off + 4, none⟩ = some (.int .i64 x.mode)

structure AtmC (w : World) (b off : Nat) (x : Atm) : Prop where
  c0 : w.cell? ⟨b, off, none⟩ = some (.int .i64 x.thread)
  c1 : w.cell? ⟨b, off + 1, none⟩ = some (.int .i64 x.at')
  c2 : w.cell? ⟨b, off + 2, none⟩ = some (.int .i64 x.val)

structure Ev4C (w : World) (b off : Nat) (x : Evt) : Prop where
  c0 : w.cell? ⟨b, off, none⟩ = some (.int .i64 x.thread)
  c1 : w.cell? ⟨b, off + 1, none⟩ = some (.int .i64 x.place)
  c2 : w.cell? ⟨b, off + 2, none⟩ = some (.int .i64 x.kind)
  c3 : w.cell? ⟨b, off + 3, none⟩ = some (.int .i64 x.loc)

structure Ev9C (w : World) (b off : Nat) (x : Evt) : Prop where
  c0 : w.cell? ⟨b, off, none⟩ = some (.int .i64 x.thread)
  c1 : w.cell? ⟨b, off + 1, none⟩ = some (.int .i64 x.place)
  c2 : w.cell? ⟨b, off + 2, none⟩ = some (.int .i64 x.kind)
  c3 : w.cell? ⟨b, off + 3, none⟩ = some (.int .i64 x.loc)
  c4 : w.cell? ⟨b, off + 4, none⟩ = some (.int .i64 x.ins.op)
  c5 : w.cell? ⟨b, off + 5, none⟩ = some (.int .i64 x.ins.loc)
  c6 : w.cell? ⟨b, off + 6, none⟩ = some (.int .i64 x.ins.reg)
  c7 : w.cell? ⟨b, off + 7, none⟩ = some (.int .i64 x.ins.val)
  c8 : w.cell? ⟨b, off + 8, none⟩ = some (.int .i64 x.ins.mode)

/-- A slice of such: element k, of s cells, lies at off + k * s and is told by 'C'. -/
structure SlAt {α : Type} (w : World) (s : Nat) (C : World → Nat → Nat → α → Prop) (v : Value) (l : List α) (ao : Option Addr) (b off cap : Nat) : Prop where
  hv : v = .slice ao l.length cap
  ha : l ≠ [] → ao = some ⟨b, off, none⟩
  hn : ao = none → l = [] ∧ cap = 0
  hc : ∀ k x, l[k]? = some x → C w b (off + k * s) x

def InsAt (w : World) (v : Value) (l : List Ins) : Prop := l.length * 40 ≤ 140737488351232 ∧ ∃ ao b off cap, SlAt w 5 InsC v l ao b off cap
def AtmAt (w : World) (v : Value) (l : List Atm) : Prop := l.length * 24 ≤ 140737488351232 ∧ ∃ ao b off cap, SlAt w 3 AtmC v l ao b off cap
def Ev4At (w : World) (v : Value) (l : List Evt) : Prop := ∃ ao b off cap, SlAt w 4 Ev4C v l ao b off cap
def Ev9At (w : World) (v : Value) (l : List Evt) : Prop := ∃ ao b off cap, SlAt w 9 Ev9C v l ao b off cap
def IntC (w : World) (b off : Nat) (x : Int) : Prop := w.cell? ⟨b, off, none⟩ = some (.int .i64 x)
def IntAt (w : World) (v : Value) (l : List Int) : Prop := ∃ ao b off cap, SlAt w 1 IntC v l ao b off cap
def ThrC (w : World) (b off : Nat) (l : List Ins) : Prop := ∃ u, w.cell? ⟨b, off, none⟩ = some u ∧ InsAt w u l
def ThrAt (w : World) (v : Value) (T : List (List Ins)) : Prop := T.length * 24 ≤ 140737488351232 ∧ ∃ ao b off cap, SlAt w 1 ThrC v T ao b off cap

/-- What is told of cells stays while the cells stay. -/
def Keeps {α : Type} (C : World → Nat → Nat → α → Prop) : Prop := ∀ w w' b off x, Below w.heap.size w w' → C w b off x → C w' b off x

theorem keep_cell {w w' : World} (hb : Below w.heap.size w w') {b off : Nat} {u : Value} (h : w.cell? ⟨b, off, none⟩ = some u) : w'.cell? ⟨b, off, none⟩ = some u :=
  (hb.cell (p := ⟨b, off, none⟩) (World.block_lt_of_cell? w _ h)).trans h

theorem SlAt.keep {α : Type} {C : World → Nat → Nat → α → Prop} (K : Keeps C) {w w' : World} {s : Nat} {v : Value} {l : List α} {ao : Option Addr} {b off cap : Nat}
    (h : SlAt w s C v l ao b off cap) (hb : Below w.heap.size w w') : SlAt w' s C v l ao b off cap := ⟨h.hv, h.ha, h.hn, fun k x hx => K _ _ _ _ _ hb (h.hc k x hx)⟩

theorem insC_keeps : Keeps InsC := fun _ _ _ _ _ hb h => ⟨keep_cell hb h.c0, keep_cell hb h.c1, keep_cell hb h.c2, keep_cell hb h.c3, keep_cell hb h.c4⟩
theorem atmC_keeps : Keeps AtmC := fun _ _ _ _ _ hb h => ⟨keep_cell hb h.c0, keep_cell hb h.c1, keep_cell hb h.c2⟩
theorem ev4C_keeps : Keeps Ev4C := fun _ _ _ _ _ hb h => ⟨keep_cell hb h.c0, keep_cell hb h.c1, keep_cell hb h.c2, keep_cell hb h.c3⟩
theorem ev9C_keeps : Keeps Ev9C := fun _ _ _ _ _ hb h => ⟨keep_cell hb h.c0, keep_cell hb h.c1, keep_cell hb h.c2, keep_cell hb h.c3, keep_cell hb h.c4, keep_cell hb h.c5, keep_cell hb h.c6, keep_cell hb h.c7, keep_cell hb h.c8⟩
theorem intC_keeps : Keeps IntC := fun _ _ _ _ _ hb h => keep_cell hb h

theorem InsAt.keep {w w' : World} {v : Value} {l : List Ins} (h : InsAt w v l) (hb : Below w.heap.size w w') : InsAt w' v l := by
  obtain ⟨h0, ao, b, off, cap, h⟩ := h
  exact ⟨h0, ao, b, off, cap, h.keep insC_keeps hb⟩
theorem AtmAt.keep {w w' : World} {v : Value} {l : List Atm} (h : AtmAt w v l) (hb : Below w.heap.size w w') : AtmAt w' v l := by
  obtain ⟨h0, ao, b, off, cap, h⟩ := h
  exact ⟨h0, ao, b, off, cap, h.keep atmC_keeps hb⟩
theorem Ev4At.keep {w w' : World} {v : Value} {l : List Evt} (h : Ev4At w v l) (hb : Below w.heap.size w w') : Ev4At w' v l := by
  obtain ⟨ao, b, off, cap, h⟩ := h
  exact ⟨ao, b, off, cap, h.keep ev4C_keeps hb⟩
theorem Ev9At.keep {w w' : World} {v : Value} {l : List Evt} (h : Ev9At w v l) (hb : Below w.heap.size w w') : Ev9At w' v l := by
  obtain ⟨ao, b, off, cap, h⟩ := h
  exact ⟨ao, b, off, cap, h.keep ev9C_keeps hb⟩
theorem IntAt.keep {w w' : World} {v : Value} {l : List Int} (h : IntAt w v l) (hb : Below w.heap.size w w') : IntAt w' v l := by
  obtain ⟨ao, b, off, cap, h⟩ := h
  exact ⟨ao, b, off, cap, h.keep intC_keeps hb⟩
theorem thrC_keeps : Keeps ThrC := fun _ _ _ _ _ hb ⟨u, h1, h2⟩ => ⟨u, keep_cell hb h1, h2.keep hb⟩
theorem ThrAt.keep {w w' : World} {v : Value} {T : List (List Ins)} (h : ThrAt w v T) (hb : Below w.heap.size w w') : ThrAt w' v T := by
  obtain ⟨h0, ao, b, off, cap, h⟩ := h
  exact ⟨h0, ao, b, off, cap, h.keep thrC_keeps hb⟩

/-- Old cells and old marks read as before: two rules for the walk. -/
theorem bcell {W w1 : World} (hb : Below W.heap.size W w1) : (∀ b o, b < W.heap.size → w1.cell? ⟨b, o, none⟩ = W.cell? ⟨b, o, none⟩) ∧ (∀ b o, b < W.heap.size → w1.frozen? ⟨b, o, none⟩ = W.frozen? ⟨b, o, none⟩) :=
  ⟨fun b o h => hb.cell (p := ⟨b, o, none⟩) h, fun b o h => hb.frozen (p := ⟨b, o, none⟩) h⟩

theorem below_alloc (w : World) (o : Obj) : Below w.heap.size w (w.alloc o) := (Below.refl _ _).alloc (Nat.le_refl _) _

theorem below_two (w : World) (o o' : Obj) : Below w.heap.size w ((w.alloc o).alloc o') := (below_alloc w o).alloc (by simp) _

theorem below_more {w w1 w2 : World} (h : Below w.heap.size w w1) (k : Below w1.heap.size w1 w2) : Below w.heap.size w w2 := h.trans (k.mono h.size)

/-- A slice of threads, opened: at each place a slice of instructions. -/
theorem ThrAt.opened {w : World} {v : Value} {T : List (List Ins)} (h : ThrAt w v T) : T.length * 24 ≤ 140737488351232 ∧ ∃ ao b off cap, v = .slice ao T.length cap ∧ (T ≠ [] → ao = some ⟨b, off, none⟩) ∧ (ao = none → T = [] ∧ cap = 0) ∧
    ∀ k l, T[k]? = some l → b < w.heap.size ∧ ∃ ao' cap', w.cell? ⟨b, off + k, none⟩ = some (.slice ao' l.length cap') ∧ InsAt w (.slice ao' l.length cap') l := by
  obtain ⟨h0, ao, b, off, cap, hv, ha, hn, hc⟩ := h
  refine ⟨h0, ao, b, off, cap, hv, ha, hn, fun k l hk => ?_⟩
  obtain ⟨u, hu, hi⟩ := hc k l hk
  rw [Nat.mul_one] at hu
  obtain ⟨i0, ao', b', off', cap', hs⟩ := hi
  have := hs.hv; subst this
  exact ⟨World.block_lt_of_cell? w _ hu, ao', cap', hu, i0, ao', b', off', cap', hs⟩

theorem InsC.lt {w : World} {b off : Nat} {x : Ins} (h : InsC w b off x) : b < w.heap.size := World.block_lt_of_cell? w _ h.c0
theorem AtmC.lt {w : World} {b off : Nat} {x : Atm} (h : AtmC w b off x) : b < w.heap.size := World.block_lt_of_cell? w _ h.c0

theorem ne_nil {α : Type} {l : List α} {k : Nat} (h : k < l.length) : l ≠ [] := by intro h0; subst h0; simp at h

/-- A list of numbers in memory that is new: from block B on. -/
def IntNew (B : Nat) (w : World) (v : Value) (l : List Int) : Prop := ∃ ao b off cap, SlAt w 1 IntC v l ao b off cap ∧ B ≤ b ∧ l.length ≤ cap

theorem IntNew.at' {B : Nat} {w : World} {v : Value} {l : List Int} (h : IntNew B w v l) : IntAt w v l := by
  obtain ⟨ao, b, off, cap, h, _⟩ := h
  exact ⟨ao, b, off, cap, h⟩

end Go.Proofs.YtomijmikkbhgmaaGreat

namespace Go.Proofs.YtomijmikkbhgmaaGreat
open Go.RowKit

theorem ret_bool {a b : Bool} (h : a = b) : Ending.returned (.bool a) = .returned (.bool b) := by rw [h]
theorem ret_int {a b : Int} (h : a = b) : Ending.returned (.int .i64 a) = .returned (.int .i64 b) := by rw [h]

theorem isLoc_any (n : Int) (w : World) :
    Calls Tryz.prog 153 #[.int .i64 n] w fun e w' => e = .returned (.bool (locB n)) ∧ w' = w := by
  unfold locB
  go_enter Tryz.func153, Tryz.ntmps153
  go_wp2
  all_goals go_ret
  all_goals exact ⟨ret_bool (by first | (simp; done) | (simp; omega)), rfl⟩

theorem isReg_any (n : Int) (w : World) :
    Calls Tryz.prog 156 #[.int .i64 n] w fun e w' => e = .returned (.bool (locB n)) ∧ w' = w := by
  unfold locB
  go_enter Tryz.func156, Tryz.ntmps156
  go_wp2
  all_goals go_ret
  all_goals exact ⟨ret_bool (by first | (simp; done) | (simp; omega)), rfl⟩

theorem isVal_any (n : Int) (w : World) :
    Calls Tryz.prog 154 #[.int .i64 n] w fun e w' => e = .returned (.bool (valB n)) ∧ w' = w := by
  unfold valB
  go_enter Tryz.func154, Tryz.ntmps154
  go_wp2
  all_goals go_ret
  all_goals exact ⟨ret_bool (by first | (simp; done) | (simp; omega)), rfl⟩

theorem isWriteMode_any (n : Int) (w : World) :
    Calls Tryz.prog 155 #[.int .i64 n] w fun e w' => e = .returned (.bool (wModeB n)) ∧ w' = w := by
  unfold wModeB
  go_enter Tryz.func155, Tryz.ntmps155
  go_wp2
  all_goals go_ret
  all_goals exact ⟨ret_bool (by first | (simp [*]; done) | (simp; omega)), rfl⟩

theorem isReadMode_any (n : Int) (w : World) :
    Calls Tryz.prog 157 #[.int .i64 n] w fun e w' => e = .returned (.bool (rModeB n)) ∧ w' = w := by
  unfold rModeB
  go_enter Tryz.func157, Tryz.ntmps157
  go_wp2
  all_goals go_ret
  all_goals exact ⟨ret_bool (by first | (simp [*]; done) | (simp; omega)), rfl⟩

theorem isFenceMode_any (n : Int) (w : World) :
    Calls Tryz.prog 158 #[.int .i64 n] w fun e w' => e = .returned (.bool (fModeB n)) ∧ w' = w := by
  unfold fModeB
  go_enter Tryz.func158, Tryz.ntmps158
  go_wp2
  all_goals go_ret
  all_goals exact ⟨ret_bool (by first | (simp [*]; done) | (simp; omega)), rfl⟩

def within (v lo hi : Int) : Bool := decide (lo ≤ v) && decide (v ≤ hi)

theorem within_any (v lo hi : Int) (w : World) :
    Calls Tryz.prog 127 #[.int .i64 v, .int .i64 lo, .int .i64 hi] w fun e w' => e = .returned (.bool (within v lo hi)) ∧ w' = w := by
  unfold within
  go_enter Tryz.func127, Tryz.ntmps127
  go_wp2
  all_goals go_ret
  all_goals exact ⟨ret_bool (by first | (simp; done) | (simp; omega)), rfl⟩

theorem placeOf_any (i j : Nat) (hi : i ≤ 4) (hj : j ≤ 12) (w : World) :
    Calls Tryz.prog 124 #[.int .i64 i, .int .i64 j] w fun e w' => e = .returned (.int .i64 (100 * i + j)) ∧ w' = w := by
  go_enter Tryz.func124, Tryz.ntmps124
  go_wp2
  go_ret
  exact ⟨ret_int (by simp), rfl⟩

theorem capped_any (n : Nat) (w : World) :
    Calls Tryz.prog 150 #[.int .i64 n] w fun e w' => e = .returned (.int .i64 (cap2 n : Nat)) ∧ w' = w := by
  unfold cap2
  by_cases h : 2000 < n
  · rw [if_pos h]
    go_enter Tryz.func150, Tryz.ntmps150
    go_wp2
    go_ret
    exact ⟨ret_int (by simp), rfl⟩
  · rw [if_neg h]
    go_enter Tryz.func150, Tryz.ntmps150
    go_wp2
    go_ret
    exact ⟨ret_int (by simp), rfl⟩

end Go.Proofs.YtomijmikkbhgmaaGreat

namespace Go.Proofs.YtomijmikkbhgmaaGreat
open Go.RowKit

/-- The cells of a new block of two, behind whatever is made later. -/
theorem own2 {w w3 : World} {a b : Value} {t : TypeId} (hb : Below (w.heap.size + 1) (w.alloc (.cells #[a, b] t)) w3) :
    w3.cell? ⟨w.heap.size, 0, none⟩ = some a ∧ w3.cell? ⟨w.heap.size, 1, none⟩ = some b ∧ w3.frozen? ⟨w.heap.size, 0, none⟩ = false ∧ w3.frozen? ⟨w.heap.size, 1, none⟩ = false ∧ w.heap.size < w3.heap.size := by
  have h1 := hb.cell (p := ⟨w.heap.size, 0, none⟩) (by simp)
  have h2 := hb.cell (p := ⟨w.heap.size, 1, none⟩) (by simp)
  have h3 := hb.frozen (p := ⟨w.heap.size, 0, none⟩) (by simp)
  have h4 := hb.frozen (p := ⟨w.heap.size, 1, none⟩) (by simp)
  have h5 := hb.size
  simp at h1 h2 h3 h4 h5
  exact ⟨h1, h2, h3, h4, by omega⟩

/-- A test by value: the threads' slice, Forall, the condition's slice. -/
structure TestAt (w : World) (v : Value) (T : List (List Ins)) (fa : Bool) (c : List Atm) (vt vc : Value) : Prop where
  hv : v = .agg #[vt, .bool fa, vc]
  ht : ThrAt w vt T
  hc : AtmAt w vc c

theorem TestAt.keep {w w' : World} {v : Value} {T : List (List Ins)} {fa : Bool} {c : List Atm} {vt vc : Value} (h : TestAt w v T fa c vt vc) (hb : Below w.heap.size w w') : TestAt w' v T fa c vt vc := ⟨h.hv, h.ht.keep hb, h.hc.keep hb⟩

theorem sizeB_no (T : List (List Ins)) (c : List Atm) (h : T.length < 1 ∨ 4 < T.length) : sizeB T c = false := by
  unfold sizeB; rcases h with h | h <;> simp <;> omega

theorem sizeB_noc (T : List (List Ins)) (c : List Atm) (h : 6 < c.length) : sizeB T c = false := by
  unfold sizeB; simp; omega

theorem sizeB_yes (T : List (List Ins)) (c : List Atm) (h1 : 1 ≤ T.length) (h2 : T.length ≤ 4) (h3 : c.length ≤ 6) : sizeB T c = lensB T := by
  unfold sizeB; simp [h1, h2, h3]

set_option maxHeartbeats 1000000 in
theorem sizes_any (T : List (List Ins)) (fa : Bool) (c : List Atm) (v vt vc : Value) (w : World) (h : TestAt w v T fa c vt vc) :
    Calls Tryz.prog 88 #[v] w fun e w' => e = .returned (.bool (sizeB T c)) ∧ Below w.heap.size w w' := by
  obtain ⟨hv, ht, ⟨hc0, ao', b', off', cap', hcv, _, _, _⟩⟩ := h
  obtain ⟨ht0, ao, b, off, cap, htv, hta, _, htc⟩ := ht.opened
  subst hv htv hcv
  by_cases hsz : T.length < 1 ∨ 4 < T.length
  · rw [sizeB_no T c hsz]
    rcases hsz with hsz | hsz
    all_goals
      go_enter Tryz.func88, Tryz.ntmps88
      go_wp2_with fail
      go_ret
      exact ⟨rfl, below_alloc _ _⟩
  · by_cases hcl : 6 < c.length
    · rw [sizeB_noc T c hcl]
      have h1 : 1 ≤ T.length := by omega
      have h2 : T.length ≤ 4 := by omega
      clear hsz
      go_enter Tryz.func88, Tryz.ntmps88
      go_wp2_with fail
      go_ret
      exact ⟨rfl, below_alloc _ _⟩
    · have h1 : 1 ≤ T.length := by omega
      have h2 : T.length ≤ 4 := by omega
      have h3 : c.length ≤ 6 := by omega
      rw [sizeB_yes T c h1 h2 h3]
      clear hsz hcl
      go_enter Tryz.func88, Tryz.ntmps88
      go_wp2_with fail
      go_loop [3] (fun i => ∃ k : Nat, k ≤ T.length ∧ i = .int .i64 k ∧ Hid (lensB T = lensB (T.drop k))) (fun i => T.length - (intOf i).toNat)
      case atStart => exact ⟨0, Nat.zero_le _, rfl, rfl⟩
      case round =>
        obtain ⟨k, hk, rfl, hn⟩ := hrel
        by_cases hlt : k < T.length
        · obtain ⟨l, hx⟩ := get_of_lt hlt
          obtain ⟨hbl, ao2, cap2, c0, hil⟩ := htc k l hx
          obtain rfl := hta (ne_nil hlt)
          have HN : Hid (lensB T = lensB (l :: T.drop (k + 1))) := by rw [← drop_cons hx]; exact hn
          have hl0 : l.length * 40 ≤ 140737488351232 := hil.1
          clear htc hx hn hta hil ht
          go_wp2_with fail
          · go_ret
            exact ⟨ret_bool (by rw [HN.out]; simp [lensB]; omega), below_alloc _ _⟩
          · go_round
            case measure => simp [intOf]; omega
            case rel => exact ⟨k + 1, by omega, by go_num, HN.out.trans (by simp [lensB]; omega)⟩
        · have HN : Hid (lensB T = lensB []) := by rw [← drop_nil hlt]; exact hn
          clear htc hn hta ht
          go_wp2_with fail
          go_ret
          exact ⟨ret_bool (by rw [HN.out]; rfl), below_alloc _ _⟩

def faultS (b : Bool) : Value := .agg #[.int .i64 (if b then 0 else 1), .int .i64 0]

set_option maxHeartbeats 1000000 in
theorem findSize_any (T : List (List Ins)) (fa : Bool) (c : List Atm) (v vt vc : Value) (w : World) (h : TestAt w v T fa c vt vc) :
    Calls Tryz.prog 80 #[v] w fun e w' => e = .returned (faultS (sizeB T c)) ∧ Below w.heap.size w w' := by
  obtain ⟨hv, ht, ⟨hc0, ao', b', off', cap', hcv, _, _, _⟩⟩ := h
  obtain ⟨ht0, ao, b, off, cap, htv, hta, _, htc⟩ := ht.opened
  subst hv htv hcv
  by_cases hsz : T.length < 1 ∨ 4 < T.length
  · rw [sizeB_no T c hsz]
    rcases hsz with hsz | hsz
    all_goals
      go_enter Tryz.func80, Tryz.ntmps80
      go_wp2_with fail
      exact bodyPost_ret (v := .agg #[.int .i64 1, .int .i64 0]) (by simp [results, Tryz.results80, go_sem]) rfl ⟨rfl, by repeat (first | exact Below.refl _ _ | assumption | refine Below.alloc ?_ (by simp; try omega) _)⟩
  · have h1 : 1 ≤ T.length := by omega
    have h2 : T.length ≤ 4 := by omega
    clear hsz
    go_enter Tryz.func80, Tryz.ntmps80
    go_wp2_with fail
    go_loop [21] (fun i => ∃ k : Nat, k ≤ T.length ∧ i = .int .i64 k ∧ Hid (lensB T = lensB (T.drop k))) (fun i => T.length - (intOf i).toNat)
    case atStart => exact ⟨0, Nat.zero_le _, rfl, rfl⟩
    case round =>
      obtain ⟨k, hk, rfl, hn⟩ := hrel
      by_cases hlt : k < T.length
      · obtain ⟨l, hx⟩ := get_of_lt hlt
        obtain ⟨hbl, ao2, cap2, c0, hil⟩ := htc k l hx
        obtain rfl := hta (ne_nil hlt)
        have HN : Hid (lensB T = lensB (l :: T.drop (k + 1))) := by rw [← drop_cons hx]; exact hn
        have hl0 : l.length * 40 ≤ 140737488351232 := hil.1
        have hbl1 : b < w.heap.size + 1 := by omega
        have hbl2 : b < w.heap.size + 1 + 1 := by omega
        clear htc hx hn hta hil ht
        by_cases hl12 : 12 < l.length
        · have HS : Hid (sizeB T c = false) := by
            have e : lensB T = false := by rw [HN.out, lensB, decide_eq_false (by omega)]; rfl
            unfold Hid sizeB; rw [e]; simp
          go_wp2_with fail
          exact bodyPost_ret (v := .agg #[.int .i64 1, .int .i64 0]) (by simp [results, Tryz.results80, go_sem]) rfl ⟨by rw [HS.out]; rfl, by repeat (first | exact Below.refl _ _ | assumption | refine Below.alloc ?_ (by simp; try omega) _)⟩
        · go_wp2_with fail
          go_round
          case measure => simp [intOf]; omega
          case rel => exact ⟨k + 1, by omega, by go_num, HN.out.trans (by simp [lensB]; omega)⟩
      · have HN : Hid (lensB T = true) := by rw [hn, drop_nil hlt]; rfl
        clear htc hn hta ht
        by_cases hcl : 6 < c.length
        · have HS : Hid (sizeB T c = false) := sizeB_noc T c hcl
          go_wp2_with fail
          exact bodyPost_ret (v := .agg #[.int .i64 1, .int .i64 0]) (by simp [results, Tryz.results80, go_sem]) rfl ⟨by rw [HS.out]; rfl, by repeat (first | exact Below.refl _ _ | assumption | refine Below.alloc ?_ (by simp; try omega) _)⟩
        · have HS : Hid (sizeB T c = true) := by rw [sizeB_yes T c h1 h2 (by omega)]; exact HN
          go_wp2_with fail
          exact bodyPost_ret (v := .agg #[.int .i64 0, .int .i64 0]) (by simp [results, Tryz.results80, go_sem]) rfl ⟨by rw [HS.out]; rfl, by repeat (first | exact Below.refl _ _ | assumption | refine Below.alloc ?_ (by simp; try omega) _)⟩

end Go.Proofs.YtomijmikkbhgmaaGreat
