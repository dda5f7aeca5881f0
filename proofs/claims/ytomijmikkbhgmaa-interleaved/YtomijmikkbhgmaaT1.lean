import Derived.WalkKit
import Derived.WalkSpells
import Derived.WalkLawsBesides
import Derived.Test.YtomijmikkbhgmaaRows
import Derived.Deep.Light
import Derived.ProofKit
import Derived.SizedLaws
import Derived.Lib.SmallJoins
import Derived.Deep.Slices
import Derived.ArgAppend
import Derived.Laws.AppendOwnNone
namespace Go.Proofs.Ytomijmikkbhgmaa

structure Ins where
  (op loc reg val mode : Int)

structure Atm where
  (thread at' val : Int)

structure Evt where
  (thread place kind loc : Int)
  ins : Ins

/-! P3: what may be -/
def locB (n : Int) : Bool := decide (0 ≤ n) && decide (n < 3)
def valB (n : Int) : Bool := decide (0 ≤ n) && decide (n ≤ 3)
def wModeB (n : Int) : Bool := n == 0 || n == 2
def rModeB (n : Int) : Bool := n == 0 || n == 1
def fModeB (n : Int) : Bool := n == 0 || n == 1 || n == 2

def mayB (x : Ins) : Bool :=
  if x.op == 0 then locB x.loc && x.reg == 0 && valB x.val && wModeB x.mode
  else if x.op == 1 then locB x.loc && locB x.reg && x.val == 0 && wModeB x.mode
  else if x.op == 2 then locB x.loc && locB x.reg && x.val == 0 && rModeB x.mode
  else if x.op == 3 then locB x.loc && locB x.reg && valB x.val && (rModeB x.mode || wModeB x.mode)
  else if x.op == 4 then x.loc == 0 && x.reg == 0 && x.val == 0 && fModeB x.mode
  else if x.op == 5 || x.op == 6 || x.op == 7 then x.loc == 0 && x.reg == 0 && x.val == 0 && x.mode == 0
  else false

def atmB (a : Atm) (n : Int) : Bool :=
  valB a.val && (if a.thread == -1 then locB a.at' else decide (0 ≤ a.thread) && decide (a.thread < n) && locB a.at')

def lensB : List (List Ins) → Bool
  | [] => true
  | l :: T => decide (l.length ≤ 12) && lensB T

def sizeB (T : List (List Ins)) (c : List Atm) : Bool := decide (1 ≤ T.length) && decide (T.length ≤ 4) && lensB T && decide (c.length ≤ 6)

/-- The place of the first instruction that may not be. -/
def badAt : List Ins → Nat → Option Nat
  | [], _ => none
  | x :: l, j => if mayB x then badAt l (j + 1) else some j

def insF : List (List Ins) → Nat → Option Nat
  | [], _ => none
  | l :: T, i => match badAt l 0 with
    | some j => some (100 * i + j)
    | none => insF T (i + 1)

/-- Where a thread's sections are not well nested, or -1. -/
def nst : List Ins → Nat → Bool → Int
  | [], j, b => if b then j else -1
  | x :: l, j, b =>
    if x.op == 5 then (if b then j else nst l (j + 1) true)
    else if x.op == 6 then (if b then nst l (j + 1) false else j)
    else if x.op == 7 then (if b then j else nst l (j + 1) b)
    else nst l (j + 1) b

def nstF : List (List Ins) → Nat → Option Int
  | [], _ => none
  | l :: T, i => if 0 ≤ nst l 0 false then some (100 * i + nst l 0 false) else nstF T (i + 1)

def atmF : List Atm → Nat → Int → Option Nat
  | [], _, _ => none
  | a :: c, i, n => if atmB a n then atmF c (i + 1) n else some i

/-! P4: events -/
def kindsOf (op : Int) : List Int :=
  if op == 0 || op == 1 then [1] else if op == 2 then [0] else if op == 3 then [0, 1] else if op == 5 then [2] else if op == 6 then [3] else if op == 7 then [4, 5] else []

def evsK (i j : Nat) (x : Ins) (ks : List Int) : List Evt := ks.map fun k => ⟨i, j, k, x.loc, x⟩

def evsI (i : Nat) : List Ins → Nat → List Evt
  | [], _ => []
  | x :: l, j => evsK i j x (kindsOf x.op) ++ evsI i l (j + 1)

def evsT : List (List Ins) → Nat → List Evt
  | [], _ => []
  | l :: T, i => evsI i l 0 ++ evsT T (i + 1)

/-! P5: how many -/
def wrs : List Evt → Nat → Int → List Int
  | [], _, _ => []
  | x :: E, i, loc => if x.kind == 1 && x.loc == loc then (i : Int) :: wrs E (i + 1) loc else wrs E (i + 1) loc

def fac : Nat → Nat
  | 0 => 1
  | m + 1 => (m + 1) * fac m

def prodR (E : List Evt) : List Evt → Nat
  | [] => 1
  | x :: R => (if x.kind == 0 then 1 + (wrs E 0 x.loc).length else 1) * prodR E R

def sizeN (E : List Evt) : Nat := prodR E E * (fac (wrs E 0 0).length * (fac (wrs E 0 1).length * fac (wrs E 0 2).length))

def cap2 (n : Nat) : Nat := if 2000 < n then 2001 else n

def cntO (op : Int) : List (List Ins) → Nat
  | [] => 0
  | l :: T => (l.filter fun x => x.op == op).length + cntO op T

def cntK (k : Int) (E : List Evt) : Nat := (E.filter fun x => x.kind == k).length

def manyB (T : List (List Ins)) : Bool := decide (3 < cntO 5 T) || decide (2 < cntO 7 T) || decide (2000 < cap2 (sizeN (evsT T 0)))

/-- Check: the error and the place. -/
def chk (T : List (List Ins)) (c : List Atm) : Int × Int :=
  if sizeB T c then
    match insF T 0 with
    | some p => (2, p)
    | none => match nstF T 0 with
      | some p => (3, p)
      | none => match atmF c 0 T.length with
        | some p => (4, p)
        | none => if manyB T then (5, 0) else (0, 0)
  else (1, 0)

theorem nst_cons7 (x : Ins) (l : List Ins) (j : Nat) (b : Bool) : nst (x :: l) j b =
    if x.op == 5 then (if b then (j : Int) else nst l (j + 1) true)
    else if x.op == 7 then (if b then (j : Int) else nst l (j + 1) b)
    else if x.op == 6 then (if b then nst l (j + 1) false else (j : Int))
    else nst l (j + 1) b := by
  rw [nst]
  by_cases h6 : x.op = 6
  · simp [h6]
  · by_cases h7 : x.op = 7 <;> simp [h6, h7]

theorem insF_bad {l : List Ins} {j : Nat} (h : badAt l 0 = some j) (T : List (List Ins)) (k : Nat) : insF (l :: T) k = some (100 * k + j) := by rw [insF, h]
theorem insF_ok {l : List Ins} (h : badAt l 0 = none) (T : List (List Ins)) (k : Nat) : insF (l :: T) k = insF T (k + 1) := by rw [insF, h]
theorem badAt_bad {x : Ins} (h : mayB x = false) (l : List Ins) (j : Nat) : badAt (x :: l) j = some j := by rw [badAt, if_neg (by simp [h])]
theorem badAt_ok {x : Ins} (h : mayB x = true) (l : List Ins) (j : Nat) : badAt (x :: l) j = badAt l (j + 1) := by rw [badAt, if_pos h]
theorem nstF_bad {l : List Ins} (h : 0 ≤ nst l 0 false) (T : List (List Ins)) (k : Nat) : nstF (l :: T) k = some (100 * k + nst l 0 false) := by rw [nstF, if_pos h]
theorem nstF_ok {l : List Ins} (h : ¬ 0 ≤ nst l 0 false) (T : List (List Ins)) (k : Nat) : nstF (l :: T) k = nstF T (k + 1) := by rw [nstF, if_neg h]
theorem atmF_bad {a : Atm} {n : Int} (h : atmB a n = false) (c : List Atm) (i : Nat) : atmF (a :: c) i n = some i := by rw [atmF, if_neg (by simp [h])]
theorem atmF_ok {a : Atm} {n : Int} (h : atmB a n = true) (c : List Atm) (i : Nat) : atmF (a :: c) i n = atmF c (i + 1) n := by rw [atmF, if_pos h]

theorem nst_le (l : List Ins) (j : Nat) (b : Bool) : nst l j b ≤ j + l.length ∧ -1 ≤ nst l j b := by
  induction l generalizing j b with
  | nil => rw [nst]; split <;> simp <;> omega
  | cons x l ih =>
    have h1 := ih (j + 1) true; have h2 := ih (j + 1) false; have h3 := ih (j + 1) b
    rw [nst]
    simp only [List.length_cons]
    repeat' split
    all_goals omega

/-! small facts -/
theorem drop_cons {α : Type} {l : List α} {k : Nat} {x : α} (h : l[k]? = some x) : l.drop k = x :: l.drop (k + 1) := by
  obtain ⟨hk, rfl⟩ := List.getElem?_eq_some_iff.1 h
  exact List.drop_eq_getElem_cons hk

theorem take_snoc {α : Type} {l : List α} {k : Nat} {x : α} (h : l[k]? = some x) : l.take (k + 1) = l.take k ++ [x] := by
  obtain ⟨hk, rfl⟩ := List.getElem?_eq_some_iff.1 h
  exact List.take_succ_eq_append_getElem hk

theorem drop_nil {α : Type} {l : List α} {k : Nat} (h : ¬ k < l.length) : l.drop k = [] := List.drop_eq_nil_of_le (by omega)

theorem get_of_lt {α : Type} {l : List α} {k : Nat} (h : k < l.length) : ∃ x, l[k]? = some x := ⟨l[k], List.getElem?_eq_getElem h⟩

theorem lensB_get {T : List (List Ins)} (h : lensB T = true) {k : Nat} {l : List Ins} (hk : T[k]? = some l) : l.length ≤ 12 := by
  induction T generalizing k with
  | nil => simp at hk
  | cons a T ih =>
    simp only [lensB, Bool.and_eq_true, decide_eq_true_eq] at h
    cases k with
    | zero => simp at hk; subst hk; exact h.1
    | succ k => exact ih h.2 (by simpa using hk)

theorem cap2_le (n : Nat) : cap2 n ≤ 2001 := by unfold cap2; split <;> omega
theorem cap2_of_le {n : Nat} (h : n ≤ 2001) : cap2 n = n := by unfold cap2; split <;> omega
theorem cap2_mul (a f : Nat) (hf : 1 ≤ f) : cap2 (cap2 a * f) = cap2 (a * f) := by
  unfold cap2
  by_cases h : 2000 < a
  · have h1 : 2000 < 2001 * f := by have := Nat.mul_le_mul_left 2001 hf; omega
    have h2 : 2000 < a * f := by have := Nat.mul_le_mul_left a hf; omega
    rw [if_pos h, if_pos h1, if_pos h2]
  · rw [if_neg h]

theorem fac_pos (m : Nat) : 1 ≤ fac m := by
  induction m with
  | zero => exact Nat.le_refl 1
  | succ m ih => unfold fac; have := Nat.mul_le_mul (show 1 ≤ m + 1 by omega) ih; omega

theorem prodR_pos (E R : List Evt) : 1 ≤ prodR E R := by
  induction R with
  | nil => exact Nat.le_refl 1
  | cons x R ih =>
    unfold prodR
    have h1 : 1 ≤ (if x.kind == 0 then 1 + (wrs E 0 x.loc).length else 1) := by split <;> omega
    have := Nat.mul_le_mul h1 ih; omega

theorem wrs_len (E : List Evt) (i : Nat) (loc : Int) : (wrs E i loc).length ≤ E.length := by
  induction E generalizing i with
  | nil => simp [wrs]
  | cons x E ih =>
    unfold wrs
    have := ih (i + 1)
    split <;> simp <;> omega

theorem kindsOf_len (op : Int) : (kindsOf op).length ≤ 2 := by
  unfold kindsOf
  repeat' split
  all_goals simp

theorem evsI_len (i : Nat) (l : List Ins) (j : Nat) : (evsI i l j).length ≤ 2 * l.length := by
  induction l generalizing j with
  | nil => simp [evsI]
  | cons x l ih =>
    have := ih (j + 1); have := kindsOf_len x.op
    simp [evsI, evsK]; omega

theorem evsT_len (T : List (List Ins)) (i : Nat) (h : lensB T = true) : (evsT T i).length ≤ 24 * T.length := by
  induction T generalizing i with
  | nil => simp [evsT]
  | cons l T ih =>
    simp only [lensB, Bool.and_eq_true, decide_eq_true_eq] at h
    have := ih (i + 1) h.2; have := evsI_len i l 0
    simp [evsT]; omega

/-- The events that mark a section's begin are as many as the Enters. -/
theorem cntK_evsI (op k : Int) (hk : ∀ o : Int, ((kindsOf o).filter fun q => q == k).length = if o == op then 1 else 0) (i : Nat) (l : List Ins) (j : Nat) :
    cntK k (evsI i l j) = (l.filter fun x => x.op == op).length := by
  induction l generalizing j with
  | nil => rfl
  | cons x l ih =>
    have h1 := hk x.op
    have h2 : cntK k (evsK i j x (kindsOf x.op)) = if x.op == op then 1 else 0 := by
      rw [← h1]; unfold cntK evsK; rw [List.filter_map, List.length_map]; rfl
    have h3 := ih (j + 1)
    unfold cntK at h2 h3 ⊢
    rw [evsI, List.filter_append, List.length_append, h2, h3, List.filter_cons]
    cases x.op == op <;> simp <;> omega

theorem cntK_evsT (op k : Int) (hk : ∀ o : Int, ((kindsOf o).filter fun q => q == k).length = if o == op then 1 else 0) (T : List (List Ins)) (i : Nat) :
    cntK k (evsT T i) = cntO op T := by
  induction T generalizing i with
  | nil => rfl
  | cons l T ih =>
    have h1 := cntK_evsI op k hk i l 0
    have h2 := ih (i + 1)
    unfold cntK at h1 h2 ⊢
    rw [evsT, List.filter_append, List.length_append, h1, h2, cntO]

theorem kinds_enter (o : Int) : ((kindsOf o).filter fun q => q == 2).length = if o == 5 then 1 else 0 := by
  unfold kindsOf
  repeat' split
  all_goals simp_all

theorem kinds_sync (o : Int) : ((kindsOf o).filter fun q => q == 4).length = if o == 7 then 1 else 0 := by
  unfold kindsOf
  repeat' split
  all_goals simp_all

end Go.Proofs.Ytomijmikkbhgmaa

namespace Go.Proofs.Ytomijmikkbhgmaa
open Go.RowKit

/-- Cells of an instruction at an address. -/
structure InsC (w : World) (b off : Nat) (x : Ins) : Prop where
  c0 : w.cell? ⟨b, off, none⟩ = some (.int .i64 x.op)
  c1 : w.cell? ⟨b, off + 1, none⟩ = some (.int .i64 x.loc)
  c2 : w.cell? ⟨b, off + 2, none⟩ = some (.int .i64 x.reg)
  c3 : w.cell? ⟨b, off + 3, none⟩ = some (.int .i64 x.val)
  c4 : w.cell? ⟨b, off + 4, none⟩ = some (.int .i64 x.mode)

structure AtmC (w : World) (b off : Nat) (x : Atm) : Prop where
  c0 : w.cell? ⟨b, off, none⟩ = some (.int .i64 x.thread)
  c1 : w.cell? ⟨b, off + 1, none⟩ = some (.int .i64 x.at')
  c2 : w.cell? ⟨b, off + 2, none⟩ = some (.int .i64 x.val)

structure Ev4C (w : World) (b off : Nat) (x : Evt) : Prop where
  c0 : w.cell? ⟨b, off, none⟩ = some (.int .i64 x.thread)
  c1 : w.cell? ⟨b, off + 1, none⟩ = some (.int .i64 x.place)
  c2 : w.cell? ⟨b, off + 2, none⟩ = some (.int .i64 x.kind)
  c3 : w.cell? ⟨b, off + 3, none⟩ = some (.int .i64 x.loc)

structure Ev9C (w : World) (b off : Nat) (x : Evt) : Prop where
  c0 : w.cell? ⟨b, off, none⟩ = some (.int .i64 x.thread)
  c1 : w.cell? ⟨b, off + 1, none⟩ = some (.int .i64 x.place)
  c2 : w.cell? ⟨b, off + 2, none⟩ = some (.int .i64 x.kind)
  c3 : w.cell? ⟨b, off + 3, none⟩ = some (.int .i64 x.loc)
  c4 : w.cell? ⟨b, off + 4, none⟩ = some (.int .i64 x.ins.op)
  c5 : w.cell? ⟨b, off + 5, none⟩ = some (.int .i64 x.ins.loc)
  c6 : w.cell? ⟨b, off + 6, none⟩ = some (.int .i64 x.ins.reg)
  c7 : w.cell? ⟨b, off + 7, none⟩ = some (.int .i64 x.ins.val)
  c8 : w.cell? ⟨b, off + 8, none⟩ = some (.int .i64 x.ins.mode)

/-- A slice of such: element k, of s cells, lies at off + k * s and is told by 'C'. -/
structure SlAt {α : Type} (w : World) (s : Nat) (C : World → Nat → Nat → α → Prop) (v : Value) (l : List α) (ao : Option Addr) (b off cap : Nat) : Prop where
  hv : v = .slice ao l.length cap
  ha : l ≠ [] → ao = some ⟨b, off, none⟩
  hn : ao = none → l = [] ∧ cap = 0
  hc : ∀ k x, l[k]? = some x → C w b (off + k * s) x

def InsAt (w : World) (v : Value) (l : List Ins) : Prop := l.length * 40 ≤ 140737488351232 ∧ ∃ ao b off cap, SlAt w 5 InsC v l ao b off cap
def AtmAt (w : World) (v : Value) (l : List Atm) : Prop := l.length * 24 ≤ 140737488351232 ∧ ∃ ao b off cap, SlAt w 3 AtmC v l ao b off cap
def Ev4At (w : World) (v : Value) (l : List Evt) : Prop := ∃ ao b off cap, SlAt w 4 Ev4C v l ao b off cap
def Ev9At (w : World) (v : Value) (l : List Evt) : Prop := ∃ ao b off cap, SlAt w 9 Ev9C v l ao b off cap
def IntC (w : World) (b off : Nat) (x : Int) : Prop := w.cell? ⟨b, off, none⟩ = some (.int .i64 x)
def IntAt (w : World) (v : Value) (l : List Int) : Prop := ∃ ao b off cap, SlAt w 1 IntC v l ao b off cap
def ThrC (w : World) (b off : Nat) (l : List Ins) : Prop := ∃ u, w.cell? ⟨b, off, none⟩ = some u ∧ InsAt w u l
def ThrAt (w : World) (v : Value) (T : List (List Ins)) : Prop := T.length * 24 ≤ 140737488351232 ∧ ∃ ao b off cap, SlAt w 1 ThrC v T ao b off cap

/-- What is told of cells stays while the cells stay. -/
def Keeps {α : Type} (C : World → Nat → Nat → α → Prop) : Prop := ∀ w w' b off x, Below w.heap.size w w' → C w b off x → C w' b off x

theorem keep_cell {w w' : World} (hb : Below w.heap.size w w') {b off : Nat} {u : Value} (h : w.cell? ⟨b, off, none⟩ = some u) : w'.cell? ⟨b, off, none⟩ = some u :=
  (hb.cell (p := ⟨b, off, none⟩) (World.block_lt_of_cell? w _ h)).trans h

theorem SlAt.keep {α : Type} {C : World → Nat → Nat → α → Prop} (K : Keeps C) {w w' : World} {s : Nat} {v : Value} {l : List α} {ao : Option Addr} {b off cap : Nat}
    (h : SlAt w s C v l ao b off cap) (hb : Below w.heap.size w w') : SlAt w' s C v l ao b off cap := ⟨h.hv, h.ha, h.hn, fun k x hx => K _ _ _ _ _ hb (h.hc k x hx)⟩

theorem insC_keeps : Keeps InsC := fun _ _ _ _ _ hb h => ⟨keep_cell hb h.c0, keep_cell hb h.c1, keep_cell hb h.c2, keep_cell hb h.c3, keep_cell hb h.c4⟩
theorem atmC_keeps : Keeps AtmC := fun _ _ _ _ _ hb h => ⟨keep_cell hb h.c0, keep_cell hb h.c1, keep_cell hb h.c2⟩
theorem ev4C_keeps : Keeps Ev4C := fun _ _ _ _ _ hb h => ⟨keep_cell hb h.c0, keep_cell hb h.c1, keep_cell hb h.c2, keep_cell hb h.c3⟩
theorem ev9C_keeps : Keeps Ev9C := fun _ _ _ _ _ hb h => ⟨keep_cell hb h.c0, keep_cell hb h.c1, keep_cell hb h.c2, keep_cell hb h.c3, keep_cell hb h.c4, keep_cell hb h.c5, keep_cell hb h.c6, keep_cell hb h.c7, keep_cell hb h.c8⟩
theorem intC_keeps : Keeps IntC := fun _ _ _ _ _ hb h => keep_cell hb h

theorem InsAt.keep {w w' : World} {v : Value} {l : List Ins} (h : InsAt w v l) (hb : Below w.heap.size w w') : InsAt w' v l := by
  obtain ⟨h0, ao, b, off, cap, h⟩ := h
  exact ⟨h0, ao, b, off, cap, h.keep insC_keeps hb⟩
theorem AtmAt.keep {w w' : World} {v : Value} {l : List Atm} (h : AtmAt w v l) (hb : Below w.heap.size w w') : AtmAt w' v l := by
  obtain ⟨h0, ao, b, off, cap, h⟩ := h
  exact ⟨h0, ao, b, off, cap, h.keep atmC_keeps hb⟩
theorem Ev4At.keep {w w' : World} {v : Value} {l : List Evt} (h : Ev4At w v l) (hb : Below w.heap.size w w') : Ev4At w' v l := by
  obtain ⟨ao, b, off, cap, h⟩ := h
  exact ⟨ao, b, off, cap, h.keep ev4C_keeps hb⟩
theorem Ev9At.keep {w w' : World} {v : Value} {l : List Evt} (h : Ev9At w v l) (hb : Below w.heap.size w w') : Ev9At w' v l := by
  obtain ⟨ao, b, off, cap, h⟩ := h
  exact ⟨ao, b, off, cap, h.keep ev9C_keeps hb⟩
theorem IntAt.keep {w w' : World} {v : Value} {l : List Int} (h : IntAt w v l) (hb : Below w.heap.size w w') : IntAt w' v l := by
  obtain ⟨ao, b, off, cap, h⟩ := h
  exact ⟨ao, b, off, cap, h.keep intC_keeps hb⟩
theorem thrC_keeps : Keeps ThrC := fun _ _ _ _ _ hb ⟨u, h1, h2⟩ => ⟨u, keep_cell hb h1, h2.keep hb⟩
theorem ThrAt.keep {w w' : World} {v : Value} {T : List (List Ins)} (h : ThrAt w v T) (hb : Below w.heap.size w w') : ThrAt w' v T := by
  obtain ⟨h0, ao, b, off, cap, h⟩ := h
  exact ⟨h0, ao, b, off, cap, h.keep thrC_keeps hb⟩

/-- Old cells and old marks read as before: two rules for the walk. -/
theorem bcell {W w1 : World} (hb : Below W.heap.size W w1) : (∀ b o, b < W.heap.size → w1.cell? ⟨b, o, none⟩ = W.cell? ⟨b, o, none⟩) ∧ (∀ b o, b < W.heap.size → w1.frozen? ⟨b, o, none⟩ = W.frozen? ⟨b, o, none⟩) :=
  ⟨fun b o h => hb.cell (p := ⟨b, o, none⟩) h, fun b o h => hb.frozen (p := ⟨b, o, none⟩) h⟩

theorem below_alloc (w : World) (o : Obj) : Below w.heap.size w (w.alloc o) := (Below.refl _ _).alloc (Nat.le_refl _) _

theorem below_two (w : World) (o o' : Obj) : Below w.heap.size w ((w.alloc o).alloc o') := (below_alloc w o).alloc (by simp) _

theorem below_more {w w1 w2 : World} (h : Below w.heap.size w w1) (k : Below w1.heap.size w1 w2) : Below w.heap.size w w2 := h.trans (k.mono h.size)

/-- A slice of threads, opened: at each place a slice of instructions. -/
theorem ThrAt.opened {w : World} {v : Value} {T : List (List Ins)} (h : ThrAt w v T) : T.length * 24 ≤ 140737488351232 ∧ ∃ ao b off cap, v = .slice ao T.length cap ∧ (T ≠ [] → ao = some ⟨b, off, none⟩) ∧ (ao = none → T = [] ∧ cap = 0) ∧
    ∀ k l, T[k]? = some l → b < w.heap.size ∧ ∃ ao' cap', w.cell? ⟨b, off + k, none⟩ = some (.slice ao' l.length cap') ∧ InsAt w (.slice ao' l.length cap') l := by
  obtain ⟨h0, ao, b, off, cap, hv, ha, hn, hc⟩ := h
  refine ⟨h0, ao, b, off, cap, hv, ha, hn, fun k l hk => ?_⟩
  obtain ⟨u, hu, hi⟩ := hc k l hk
  rw [Nat.mul_one] at hu
  obtain ⟨i0, ao', b', off', cap', hs⟩ := hi
  have := hs.hv; subst this
  exact ⟨World.block_lt_of_cell? w _ hu, ao', cap', hu, i0, ao', b', off', cap', hs⟩

theorem InsC.lt {w : World} {b off : Nat} {x : Ins} (h : InsC w b off x) : b < w.heap.size := World.block_lt_of_cell? w _ h.c0
theorem AtmC.lt {w : World} {b off : Nat} {x : Atm} (h : AtmC w b off x) : b < w.heap.size := World.block_lt_of_cell? w _ h.c0

theorem ne_nil {α : Type} {l : List α} {k : Nat} (h : k < l.length) : l ≠ [] := by intro h0; subst h0; simp at h

/-- A list of numbers in memory that is new: from block B on. -/
def IntNew (B : Nat) (w : World) (v : Value) (l : List Int) : Prop := ∃ ao b off cap, SlAt w 1 IntC v l ao b off cap ∧ B ≤ b ∧ l.length ≤ cap

theorem IntNew.at' {B : Nat} {w : World} {v : Value} {l : List Int} (h : IntNew B w v l) : IntAt w v l := by
  obtain ⟨ao, b, off, cap, h, _⟩ := h
  exact ⟨ao, b, off, cap, h⟩

end Go.Proofs.Ytomijmikkbhgmaa

namespace Go.Proofs.Ytomijmikkbhgmaa
open Go.RowKit

theorem ret_bool {a b : Bool} (h : a = b) : Ending.returned (.bool a) = .returned (.bool b) := by rw [h]
theorem ret_int {a b : Int} (h : a = b) : Ending.returned (.int .i64 a) = .returned (.int .i64 b) := by rw [h]

theorem isLoc_any (n : Int) (w : World) :
    Calls Try.prog 110 #[.int .i64 n] w fun e w' => e = .returned (.bool (locB n)) ∧ w' = w := by
  unfold locB
  go_enter Try.func110, Try.ntmps110
  go_wp2
  all_goals go_ret
  all_goals exact ⟨ret_bool (by first | (simp; done) | (simp; omega)), rfl⟩

theorem isReg_any (n : Int) (w : World) :
    Calls Try.prog 113 #[.int .i64 n] w fun e w' => e = .returned (.bool (locB n)) ∧ w' = w := by
  unfold locB
  go_enter Try.func113, Try.ntmps113
  go_wp2
  all_goals go_ret
  all_goals exact ⟨ret_bool (by first | (simp; done) | (simp; omega)), rfl⟩

theorem isVal_any (n : Int) (w : World) :
    Calls Try.prog 111 #[.int .i64 n] w fun e w' => e = .returned (.bool (valB n)) ∧ w' = w := by
  unfold valB
  go_enter Try.func111, Try.ntmps111
  go_wp2
  all_goals go_ret
  all_goals exact ⟨ret_bool (by first | (simp; done) | (simp; omega)), rfl⟩

theorem isWriteMode_any (n : Int) (w : World) :
    Calls Try.prog 112 #[.int .i64 n] w fun e w' => e = .returned (.bool (wModeB n)) ∧ w' = w := by
  unfold wModeB
  go_enter Try.func112, Try.ntmps112
  go_wp2
  all_goals go_ret
  all_goals exact ⟨ret_bool (by first | (simp [*]; done) | (simp; omega)), rfl⟩

theorem isReadMode_any (n : Int) (w : World) :
    Calls Try.prog 114 #[.int .i64 n] w fun e w' => e = .returned (.bool (rModeB n)) ∧ w' = w := by
  unfold rModeB
  go_enter Try.func114, Try.ntmps114
  go_wp2
  all_goals go_ret
  all_goals exact ⟨ret_bool (by first | (simp [*]; done) | (simp; omega)), rfl⟩

theorem isFenceMode_any (n : Int) (w : World) :
    Calls Try.prog 115 #[.int .i64 n] w fun e w' => e = .returned (.bool (fModeB n)) ∧ w' = w := by
  unfold fModeB
  go_enter Try.func115, Try.ntmps115
  go_wp2
  all_goals go_ret
  all_goals exact ⟨ret_bool (by first | (simp [*]; done) | (simp; omega)), rfl⟩

def within (v lo hi : Int) : Bool := decide (lo ≤ v) && decide (v ≤ hi)

theorem within_any (v lo hi : Int) (w : World) :
    Calls Try.prog 62 #[.int .i64 v, .int .i64 lo, .int .i64 hi] w fun e w' => e = .returned (.bool (within v lo hi)) ∧ w' = w := by
  unfold within
  go_enter Try.func62, Try.ntmps62
  go_wp2
  all_goals go_ret
  all_goals exact ⟨ret_bool (by first | (simp; done) | (simp; omega)), rfl⟩

theorem placeOf_any (i j : Nat) (hi : i ≤ 4) (hj : j ≤ 12) (w : World) :
    Calls Try.prog 81 #[.int .i64 i, .int .i64 j] w fun e w' => e = .returned (.int .i64 (100 * i + j)) ∧ w' = w := by
  go_enter Try.func81, Try.ntmps81
  go_wp2
  go_ret
  exact ⟨ret_int (by simp), rfl⟩

theorem capped_any (n : Nat) (w : World) :
    Calls Try.prog 67 #[.int .i64 n] w fun e w' => e = .returned (.int .i64 (cap2 n : Nat)) ∧ w' = w := by
  unfold cap2
  by_cases h : 2000 < n
  · rw [if_pos h]
    go_enter Try.func67, Try.ntmps67
    go_wp2
    go_ret
    exact ⟨ret_int (by simp), rfl⟩
  · rw [if_neg h]
    go_enter Try.func67, Try.ntmps67
    go_wp2
    go_ret
    exact ⟨ret_int (by simp), rfl⟩

end Go.Proofs.Ytomijmikkbhgmaa

namespace Go.Proofs.Ytomijmikkbhgmaa
open Go.RowKit

/-- The cells of a new block of two, behind whatever is made later. -/
theorem own2 {w w3 : World} {a b : Value} {t : TypeId} (hb : Below (w.heap.size + 1) (w.alloc (.cells #[a, b] t)) w3) :
    w3.cell? ⟨w.heap.size, 0, none⟩ = some a ∧ w3.cell? ⟨w.heap.size, 1, none⟩ = some b ∧ w3.frozen? ⟨w.heap.size, 0, none⟩ = false ∧ w3.frozen? ⟨w.heap.size, 1, none⟩ = false ∧ w.heap.size < w3.heap.size := by
  have h1 := hb.cell (p := ⟨w.heap.size, 0, none⟩) (by simp)
  have h2 := hb.cell (p := ⟨w.heap.size, 1, none⟩) (by simp)
  have h3 := hb.frozen (p := ⟨w.heap.size, 0, none⟩) (by simp)
  have h4 := hb.frozen (p := ⟨w.heap.size, 1, none⟩) (by simp)
  have h5 := hb.size
  simp at h1 h2 h3 h4 h5
  exact ⟨h1, h2, h3, h4, by omega⟩

/-- A test by value: the threads' slice, Forall, the condition's slice. -/
structure TestAt (w : World) (v : Value) (T : List (List Ins)) (fa : Bool) (c : List Atm) (vt vc : Value) : Prop where
  hv : v = .agg #[vt, .bool fa, vc]
  ht : ThrAt w vt T
  hc : AtmAt w vc c

theorem TestAt.keep {w w' : World} {v : Value} {T : List (List Ins)} {fa : Bool} {c : List Atm} {vt vc : Value} (h : TestAt w v T fa c vt vc) (hb : Below w.heap.size w w') : TestAt w' v T fa c vt vc := ⟨h.hv, h.ht.keep hb, h.hc.keep hb⟩

theorem sizeB_no (T : List (List Ins)) (c : List Atm) (h : T.length < 1 ∨ 4 < T.length) : sizeB T c = false := by
  unfold sizeB; rcases h with h | h <;> simp <;> omega

theorem sizeB_noc (T : List (List Ins)) (c : List Atm) (h : 6 < c.length) : sizeB T c = false := by
  unfold sizeB; simp; omega

theorem sizeB_yes (T : List (List Ins)) (c : List Atm) (h1 : 1 ≤ T.length) (h2 : T.length ≤ 4) (h3 : c.length ≤ 6) : sizeB T c = lensB T := by
  unfold sizeB; simp [h1, h2, h3]

set_option maxHeartbeats 1000000 in
theorem sizes_any (T : List (List Ins)) (fa : Bool) (c : List Atm) (v vt vc : Value) (w : World) (h : TestAt w v T fa c vt vc) :
    Calls Try.prog 33 #[v] w fun e w' => e = .returned (.bool (sizeB T c)) ∧ Below w.heap.size w w' := by
  obtain ⟨hv, ht, ⟨hc0, ao', b', off', cap', hcv, _, _, _⟩⟩ := h
  obtain ⟨ht0, ao, b, off, cap, htv, hta, _, htc⟩ := ht.opened
  subst hv htv hcv
  by_cases hsz : T.length < 1 ∨ 4 < T.length
  · rw [sizeB_no T c hsz]
    rcases hsz with hsz | hsz
    all_goals
      go_enter Try.func33, Try.ntmps33
      go_wp2_with fail
      go_ret
      exact ⟨rfl, below_alloc _ _⟩
  · by_cases hcl : 6 < c.length
    · rw [sizeB_noc T c hcl]
      have h1 : 1 ≤ T.length := by omega
      have h2 : T.length ≤ 4 := by omega
      clear hsz
      go_enter Try.func33, Try.ntmps33
      go_wp2_with fail
      go_ret
      exact ⟨rfl, below_alloc _ _⟩
    · have h1 : 1 ≤ T.length := by omega
      have h2 : T.length ≤ 4 := by omega
      have h3 : c.length ≤ 6 := by omega
      rw [sizeB_yes T c h1 h2 h3]
      clear hsz hcl
      go_enter Try.func33, Try.ntmps33
      go_wp2_with fail
      go_loop [3] (fun i => ∃ k : Nat, k ≤ T.length ∧ i = .int .i64 k ∧ Hid (lensB T = lensB (T.drop k))) (fun i => T.length - (intOf i).toNat)
      case atStart => exact ⟨0, Nat.zero_le _, rfl, rfl⟩
      case round =>
        obtain ⟨k, hk, rfl, hn⟩ := hrel
        by_cases hlt : k < T.length
        · obtain ⟨l, hx⟩ := get_of_lt hlt
          obtain ⟨hbl, ao2, cap2, c0, hil⟩ := htc k l hx
          obtain rfl := hta (ne_nil hlt)
          have HN : Hid (lensB T = lensB (l :: T.drop (k + 1))) := by rw [← drop_cons hx]; exact hn
          have hl0 : l.length * 40 ≤ 140737488351232 := hil.1
          clear htc hx hn hta hil ht
          go_wp2_with fail
          · go_ret
            exact ⟨ret_bool (by rw [HN.out]; simp [lensB]; omega), below_alloc _ _⟩
          · go_round
            case measure => simp [intOf]; omega
            case rel => exact ⟨k + 1, by omega, by go_num, HN.out.trans (by simp [lensB]; omega)⟩
        · have HN : Hid (lensB T = lensB []) := by rw [← drop_nil hlt]; exact hn
          clear htc hn hta ht
          go_wp2_with fail
          go_ret
          exact ⟨ret_bool (by rw [HN.out]; rfl), below_alloc _ _⟩

def faultS (b : Bool) : Value := .agg #[.int .i64 (if b then 0 else 1), .int .i64 0]

set_option maxHeartbeats 1000000 in
theorem findSize_any (T : List (List Ins)) (fa : Bool) (c : List Atm) (v vt vc : Value) (w : World) (h : TestAt w v T fa c vt vc) :
    Calls Try.prog 57 #[v] w fun e w' => e = .returned (faultS (sizeB T c)) ∧ Below w.heap.size w w' := by
  obtain ⟨hv, ht, ⟨hc0, ao', b', off', cap', hcv, _, _, _⟩⟩ := h
  obtain ⟨ht0, ao, b, off, cap, htv, hta, _, htc⟩ := ht.opened
  subst hv htv hcv
  by_cases hsz : T.length < 1 ∨ 4 < T.length
  · rw [sizeB_no T c hsz]
    rcases hsz with hsz | hsz
    all_goals
      go_enter Try.func57, Try.ntmps57
      go_wp2_with fail
      exact bodyPost_ret (v := .agg #[.int .i64 1, .int .i64 0]) (by simp [results, Try.results57, go_sem]) rfl ⟨rfl, by repeat (first | exact Below.refl _ _ | assumption | refine Below.alloc ?_ (by simp; try omega) _)⟩
  · have h1 : 1 ≤ T.length := by omega
    have h2 : T.length ≤ 4 := by omega
    clear hsz
    go_enter Try.func57, Try.ntmps57
    go_wp2_with fail
    go_loop [21] (fun i => ∃ k : Nat, k ≤ T.length ∧ i = .int .i64 k ∧ Hid (lensB T = lensB (T.drop k))) (fun i => T.length - (intOf i).toNat)
    case atStart => exact ⟨0, Nat.zero_le _, rfl, rfl⟩
    case round =>
      obtain ⟨k, hk, rfl, hn⟩ := hrel
      by_cases hlt : k < T.length
      · obtain ⟨l, hx⟩ := get_of_lt hlt
        obtain ⟨hbl, ao2, cap2, c0, hil⟩ := htc k l hx
        obtain rfl := hta (ne_nil hlt)
        have HN : Hid (lensB T = lensB (l :: T.drop (k + 1))) := by rw [← drop_cons hx]; exact hn
        have hl0 : l.length * 40 ≤ 140737488351232 := hil.1
        have hbl1 : b < w.heap.size + 1 := by omega
        have hbl2 : b < w.heap.size + 1 + 1 := by omega
        clear htc hx hn hta hil ht
        by_cases hl12 : 12 < l.length
        · have HS : Hid (sizeB T c = false) := by
            have e : lensB T = false := by rw [HN.out, lensB, decide_eq_false (by omega)]; rfl
            unfold Hid sizeB; rw [e]; simp
          go_wp2_with fail
          exact bodyPost_ret (v := .agg #[.int .i64 1, .int .i64 0]) (by simp [results, Try.results57, go_sem]) rfl ⟨by rw [HS.out]; rfl, by repeat (first | exact Below.refl _ _ | assumption | refine Below.alloc ?_ (by simp; try omega) _)⟩
        · go_wp2_with fail
          go_round
          case measure => simp [intOf]; omega
          case rel => exact ⟨k + 1, by omega, by go_num, HN.out.trans (by simp [lensB]; omega)⟩
      · have HN : Hid (lensB T = true) := by rw [hn, drop_nil hlt]; rfl
        clear htc hn hta ht
        by_cases hcl : 6 < c.length
        · have HS : Hid (sizeB T c = false) := sizeB_noc T c hcl
          go_wp2_with fail
          exact bodyPost_ret (v := .agg #[.int .i64 1, .int .i64 0]) (by simp [results, Try.results57, go_sem]) rfl ⟨by rw [HS.out]; rfl, by repeat (first | exact Below.refl _ _ | assumption | refine Below.alloc ?_ (by simp; try omega) _)⟩
        · have HS : Hid (sizeB T c = true) := by rw [sizeB_yes T c h1 h2 (by omega)]; exact HN
          go_wp2_with fail
          exact bodyPost_ret (v := .agg #[.int .i64 0, .int .i64 0]) (by simp [results, Try.results57, go_sem]) rfl ⟨by rw [HS.out]; rfl, by repeat (first | exact Below.refl _ _ | assumption | refine Below.alloc ?_ (by simp; try omega) _)⟩

end Go.Proofs.Ytomijmikkbhgmaa

namespace Go.Proofs.Ytomijmikkbhgmaa
open Go.ChangeShapes Go.WideShapes Go.ChangeAt Go.RowKit Go.Deep

theorem Try.cellsTest : Try.prog.cellsOf 25 = 3 := by kernel_rfl
theorem Try.cellsInstrs : Try.prog.cellsOf 63 = 1 := by kernel_rfl
theorem Try.cellsAtom : Try.prog.cellsOf 70 = 3 := by kernel_rfl
theorem Try.cellsInstr : Try.prog.cellsOf 66 = 5 := by kernel_rfl
theorem Try.cellsInt : Try.prog.cellsOf 3 = 1 := by kernel_rfl
theorem Try.bytesInstrs : Try.prog.bytesOf 63 = 24 := by kernel_rfl
theorem Try.bytesAtom : Try.prog.bytesOf 70 = 24 := by kernel_rfl
theorem Try.bytesInstr : Try.prog.bytesOf 66 = 40 := by kernel_rfl

section
variable {H : Type} {enc : TypeId × Value → H} {w : World}

theorem cells_get {base : Nat} {a : Addr} {n : Nat} {cs : List Value} (h : w.cells? base a n = some cs) : cs.length = n ∧ ∀ i v, cs[i]? = some v → w.cell? (a.add i) = some v := by
  unfold World.cells? at h
  split at h
  · have hl := mapM_some_length h
    simp at hl
    refine ⟨hl, fun i v hv => ?_⟩
    have hi : i < n := by have := (List.getElem?_eq_some_iff.1 hv).1; omega
    have := mapM_some_get h i i (by simp [hi])
    rw [this]; exact hv
  · simp at h

set_option maxRecDepth 100000 in
theorem open_instr {fuel : Nat} {cs : List Value} {x : DataW H × List MemPlace} (h : DataW.trod enc Try.prog w 0 (fun _ => true) true fuel 66 cs = some x) :
    ∃ i : Ins, cs = [.int .i64 i.op, .int .i64 i.loc, .int .i64 i.reg, .int .i64 i.val, .int .i64 i.mode] := by
  obtain ⟨xs, n, _, _, hl, hx, hf⟩ := DataW.trod_struct Try.underlying66 h
  rw [Try.cellsInstr] at hl
  match cs, hl with
  | [v0, v1, v2, v3, v4], _ =>
    have hxs : xs.length = 5 := hx
    match xs, hxs with
    | [x0, x1, x2, x3, x4], _ =>
      have h0 : DataW.trod enc Try.prog w 0 (fun _ => true) true n 3 (([v0, v1, v2, v3, v4].drop 0).take (Try.prog.cellsOf 3)) = some x0 := hf 0 _ rfl
      have h1 : DataW.trod enc Try.prog w 0 (fun _ => true) true n 3 (([v0, v1, v2, v3, v4].drop 1).take (Try.prog.cellsOf 3)) = some x1 := hf 1 _ rfl
      have h2 : DataW.trod enc Try.prog w 0 (fun _ => true) true n 3 (([v0, v1, v2, v3, v4].drop 2).take (Try.prog.cellsOf 3)) = some x2 := hf 2 _ rfl
      have h3 : DataW.trod enc Try.prog w 0 (fun _ => true) true n 3 (([v0, v1, v2, v3, v4].drop 3).take (Try.prog.cellsOf 3)) = some x3 := hf 3 _ rfl
      have h4 : DataW.trod enc Try.prog w 0 (fun _ => true) true n 3 (([v0, v1, v2, v3, v4].drop 4).take (Try.prog.cellsOf 3)) = some x4 := hf 4 _ rfl
      rw [Try.cellsInt] at h0 h1 h2 h3 h4
      obtain ⟨a0, e0, _, _⟩ := DataW.trod_int Try.underlying3 h0
      obtain ⟨a1, e1, _, _⟩ := DataW.trod_int Try.underlying3 h1
      obtain ⟨a2, e2, _, _⟩ := DataW.trod_int Try.underlying3 h2
      obtain ⟨a3, e3, _, _⟩ := DataW.trod_int Try.underlying3 h3
      obtain ⟨a4, e4, _, _⟩ := DataW.trod_int Try.underlying3 h4
      simp at e0 e1 e2 e3 e4
      subst e0 e1 e2 e3 e4
      exact ⟨⟨a0, a1, a2, a3, a4⟩, rfl⟩

set_option maxRecDepth 100000 in
theorem open_atm {fuel : Nat} {cs : List Value} {x : DataW H × List MemPlace} (h : DataW.trod enc Try.prog w 0 (fun _ => true) true fuel 70 cs = some x) :
    ∃ i : Atm, cs = [.int .i64 i.thread, .int .i64 i.at', .int .i64 i.val] := by
  obtain ⟨xs, n, _, _, hl, hx, hf⟩ := DataW.trod_struct Try.underlying70 h
  rw [Try.cellsAtom] at hl
  match cs, hl with
  | [v0, v1, v2], _ =>
    have hxs : xs.length = 3 := hx
    match xs, hxs with
    | [x0, x1, x2], _ =>
      have h0 : DataW.trod enc Try.prog w 0 (fun _ => true) true n 3 (([v0, v1, v2].drop 0).take (Try.prog.cellsOf 3)) = some x0 := hf 0 _ rfl
      have h1 : DataW.trod enc Try.prog w 0 (fun _ => true) true n 3 (([v0, v1, v2].drop 1).take (Try.prog.cellsOf 3)) = some x1 := hf 1 _ rfl
      have h2 : DataW.trod enc Try.prog w 0 (fun _ => true) true n 3 (([v0, v1, v2].drop 2).take (Try.prog.cellsOf 3)) = some x2 := hf 2 _ rfl
      rw [Try.cellsInt] at h0 h1 h2
      obtain ⟨a0, e0, _, _⟩ := DataW.trod_int Try.underlying3 h0
      obtain ⟨a1, e1, _, _⟩ := DataW.trod_int Try.underlying3 h1
      obtain ⟨a2, e2, _, _⟩ := DataW.trod_int Try.underlying3 h2
      simp at e0 e1 e2
      subst e0 e1 e2
      exact ⟨⟨a0, a1, a2⟩, rfl⟩

/-- A slice of elements of s cells, each of which can be told by 'C'. -/
theorem open_sl {α : Type} (dflt : α) {C : World → Nat → Nat → α → Prop} {t e : TypeId} {s : Nat} (hs0 : 0 < s) (ht : Try.prog.underlying t = some (.slice e)) (hs : Try.prog.cellsOf e = s)
    (ok : DataW H → Prop)
    (hel : ∀ fuel cs x, DataW.trod enc Try.prog w 0 (fun _ => true) true fuel e cs = some x → ok x.1 → ∃ i : α, ∀ b off, (∀ j u, cs[j]? = some u → w.cell? ⟨b, off + j, none⟩ = some u) → C w b off i)
    {fuel : Nat} {v : Value} {x : DataW H × List MemPlace} (h : DataW.trod enc Try.prog w 0 (fun _ => true) true fuel t [v] = some x)
    (hok : ∀ el sp, x.1 = .slice el sp → ∀ d ∈ el, ok d) :
    ∃ (l : List α) (ao : Option Addr) (b off cap : Nat), SlAt w s C v l ao b off cap ∧ (x.1 = .nil ∧ l = [] ∨ ∃ el sp, x.1 = .slice el sp ∧ el.length = l.length) := by
  rcases open_slice ht h with ⟨hcs, hx⟩ | ⟨a, len, cap, m, n, D, Pl, hcs, _, hlc, _, hm, hx, hD⟩
  · simp at hcs
    subst hcs
    exact ⟨[], none, 0, 0, 0, ⟨rfl, fun h => absurd rfl h, fun _ => ⟨rfl, rfl⟩, fun k x h => by simp at h⟩, .inl ⟨by rw [hx], rfl⟩⟩
  · simp at hcs hm
    subst hcs hm
    rw [hs] at hD
    have hx1 : x.1 = .slice ((List.range len).map D) ((List.range (m - len)).map fun j => D (len + j)) := by rw [hx]
    have hch : ∀ i, i < len → ∃ y : α, ∀ (_ : a.spot = none), C w a.block (a.off + i * s) y := by
      intro i hi
      obtain ⟨cs', h1, h2⟩ := hD i (by omega)
      obtain ⟨y, hy⟩ := hel _ _ _ h2 (hok _ _ hx1 (D i) (List.mem_map.2 ⟨i, by simpa using hi, rfl⟩))
      refine ⟨y, fun hsp => hy _ _ fun j u hj => ?_⟩
      have := (cells_get h1).2 j u hj
      rw [add_add] at this
      obtain ⟨ab, aoff, asp⟩ := a
      simp at hsp
      subst hsp
      rw [Addr.add_lit] at this
      rw [Nat.add_assoc]; exact this
    have hspot : 0 < len → a.spot = none := by
      intro hl
      obtain ⟨cs', h1, _⟩ := hD 0 (by omega)
      obtain ⟨hcl, hcg⟩ := cells_get h1
      have := hcg 0 (cs'[0]'(by omega)) (by simp)
      have hsp := World.cell?_spot this
      obtain ⟨ab, aoff, asp⟩ := a
      simpa [Addr.add] using hsp
    obtain ⟨f, hf⟩ := @choose_lt α ⟨dflt⟩ _ _ hch
    refine ⟨(List.range len).map f, some a, a.block, a.off, m, ⟨by simp, ?_, fun h => by simp at h, ?_⟩, .inr ⟨_, _, hx1, by simp⟩⟩
    · intro hne
      have hl : 0 < len := by
        rcases Nat.eq_zero_or_pos len with h0 | h0
        · subst h0; simp at hne
        · exact h0
      have hsp := hspot hl
      obtain ⟨ab, aoff, asp⟩ := a
      simp at hsp
      simp [hsp]
    · intro k y hk
      have hkl : k < len := by have := (List.getElem?_eq_some_iff.1 hk).1; simpa using this
      have hy : f k = y := by simpa [hkl] using hk
      rw [← hy]
      exact hf k hkl (hspot (by omega))

theorem weights_all {P : Program} {e : TypeId} {l : List (DataW H)} {d : DataW H} (hd : d ∈ l) : ∀ n ∈ d.weights P e, n ∈ DataW.weightsAll P e l := by
  intro n hn
  induction l with
  | nil => simp at hd
  | cons a l ih =>
    simp only [DataW.weightsAll, List.mem_append]
    rcases List.mem_cons.1 hd with rfl | h
    · exact .inl hn
    · exact .inr (ih h)

theorem weights_slice {P : Program} {t e : TypeId} (ht : P.underlying t = some (.slice e)) {el sp : List (DataW H)} (h : ∀ n ∈ (DataW.slice el sp).weights P t, n ≤ reachBytes) :
    el.length * P.bytesOf e ≤ reachBytes ∧ ∀ d ∈ el, ∀ n ∈ d.weights P e, n ≤ reachBytes := by
  simp only [DataW.weights, ht, List.mem_cons, List.mem_append] at h
  refine ⟨?_, fun d hd n hn => h n (.inr (.inl (weights_all hd n hn)))⟩
  have := h _ (.inl rfl)
  exact Nat.le_trans (Nat.mul_le_mul_right _ (by omega)) this

theorem open_ins {fuel : Nat} {v : Value} {x : DataW H × List MemPlace} (h : DataW.trod enc Try.prog w 0 (fun _ => true) true fuel 63 [v] = some x) (hw : ∀ n ∈ x.1.weights Try.prog 63, n ≤ reachBytes) : ∃ l, InsAt w v l := by
  obtain ⟨l, ao, b, off, cap, hs, hl⟩ := open_sl (α := Ins) ⟨0, 0, 0, 0, 0⟩ (C := InsC) (s := 5) (by decide) Try.underlying63 Try.cellsInstr (fun _ => True)
    (fun fuel cs x hx _ => by
      obtain ⟨i, rfl⟩ := open_instr hx
      exact ⟨i, fun b off hc => ⟨hc 0 _ rfl, hc 1 _ rfl, hc 2 _ rfl, hc 3 _ rfl, hc 4 _ rfl⟩⟩) h (fun _ _ _ _ _ => trivial)
  refine ⟨l, ?_, ao, b, off, cap, hs⟩
  rcases hl with ⟨_, rfl⟩ | ⟨el, sp, e, hel⟩
  · simp
  · rw [e] at hw
    have := (weights_slice Try.underlying63 hw).1
    rw [Try.bytesInstr, hel, reachBytes] at this
    omega

theorem open_atms {fuel : Nat} {v : Value} {x : DataW H × List MemPlace} (h : DataW.trod enc Try.prog w 0 (fun _ => true) true fuel 23 [v] = some x) (hw : ∀ n ∈ x.1.weights Try.prog 23, n ≤ reachBytes) : ∃ l, AtmAt w v l := by
  obtain ⟨l, ao, b, off, cap, hs, hl⟩ := open_sl (α := Atm) ⟨0, 0, 0⟩ (C := AtmC) (s := 3) (by decide) Try.underlying23 Try.cellsAtom (fun _ => True)
    (fun fuel cs x hx _ => by
      obtain ⟨i, rfl⟩ := open_atm hx
      exact ⟨i, fun b off hc => ⟨hc 0 _ rfl, hc 1 _ rfl, hc 2 _ rfl⟩⟩) h (fun _ _ _ _ _ => trivial)
  refine ⟨l, ?_, ao, b, off, cap, hs⟩
  rcases hl with ⟨_, rfl⟩ | ⟨el, sp, e, hel⟩
  · simp
  · rw [e] at hw
    have := (weights_slice Try.underlying23 hw).1
    rw [Try.bytesAtom, hel, reachBytes] at this
    omega

theorem open_thr {fuel : Nat} {v : Value} {x : DataW H × List MemPlace} (h : DataW.trod enc Try.prog w 0 (fun _ => true) true fuel 22 [v] = some x) (hw : ∀ n ∈ x.1.weights Try.prog 22, n ≤ reachBytes) : ∃ T, ThrAt w v T := by
  obtain ⟨l, ao, b, off, cap, hs, hl⟩ := open_sl (α := List Ins) [] (C := ThrC) (s := 1) (by decide) Try.underlying22 Try.cellsInstrs (fun d => ∀ n ∈ d.weights Try.prog 63, n ≤ reachBytes)
    (fun fuel cs x hx hok => by
      have hform : ∃ u, cs = [u] := by
        rcases open_slice Try.underlying63 hx with ⟨hcs, _⟩ | ⟨a, len, cap, m, n, D, Pl, hcs, _⟩
        · exact ⟨_, hcs⟩
        · exact ⟨_, hcs⟩
      obtain ⟨u, rfl⟩ := hform
      obtain ⟨l, hl⟩ := open_ins hx hok
      exact ⟨l, fun b off hc => ⟨u, hc 0 _ rfl, hl⟩⟩) h (fun el sp e d hd => by rw [e] at hw; exact (weights_slice Try.underlying22 hw).2 d hd)
  refine ⟨l, ?_, ao, b, off, cap, hs⟩
  rcases hl with ⟨_, rfl⟩ | ⟨el, sp, e, hel⟩
  · simp
  · rw [e] at hw
    have := (weights_slice Try.underlying22 hw).1
    rw [Try.bytesInstrs, hel, reachBytes] at this
    omega

set_option maxRecDepth 100000 in
/-- An argument of type api.Test. -/
theorem open_test {r : Reach} {b0 : Nat} {v : Value} {d : DataW H} {p : List MemPlace} (hv : Value.okWide Try.prog w r b0 25 v) (h : DataW.Trod enc Try.prog w 0 (fun _ => true) true 25 v d p)
    (hw : ∀ n ∈ d.weights Try.prog 25, n ≤ reachBytes) : ∃ T fa c vt vc, TestAt w v T fa c vt vc := by
  obtain ⟨c0, c1, c2, y0, y1, y2, n, rfl, rfl, rfl, h0, h1, h2⟩ := Joins.open_agg3 Try.underlying25 (by kernel_rfl) Try.cellsTest hv h
  have hwe : ∀ n ∈ DataW.weightsEach Try.prog [22, 4, 23] [y0.1, y1.1, y2.1], n ≤ reachBytes := by
    intro n hn
    refine hw n ?_
    simp only [DataW.weights, Try.underlying25]
    exact hn
  obtain ⟨T, hT⟩ := open_thr h0 (fun n hn => hwe n (DataW.weights_mem_each (j := 0) rfl rfl n hn))
  obtain ⟨fa, e1, _⟩ := DataW.trod_bool Try.underlying4 h1
  simp at e1
  subst e1
  obtain ⟨c, hc⟩ := open_atms h2 (fun n hn => hwe n (DataW.weights_mem_each (j := 2) rfl rfl n hn))
  exact ⟨T, fa, c, c0, c2, rfl, hT, hc⟩
end

end Go.Proofs.Ytomijmikkbhgmaa

namespace Go.Proofs.Ytomijmikkbhgmaa

theorem Try.own : ownKnob Try.prog.godebug = none := by kernel_rfl
theorem Try.laidOut : laidOutB Try.prog = true := by kernel_rfl

end Go.Proofs.Ytomijmikkbhgmaa

namespace Go.Proofs.Ytomijmikkbhgmaa
open Go.RowKit

theorem intAt_nil (w : World) (B : Nat) : IntNew B w (.slice none 0 0) [] := ⟨none, B, 0, 0, ⟨rfl, fun h => absurd rfl h, fun _ => ⟨rfl, rfl⟩, fun k x h => by simp at h⟩, Nat.le_refl _, Nat.le_refl _⟩

theorem intAt_one (w : World) (a : Int) (t : TypeId) : IntNew w.heap.size (w.alloc (.cells #[.int .i64 a] t)) (.slice (some ⟨w.heap.size, 0, none⟩) 1 1) [a] :=
  ⟨_, w.heap.size, 0, 1, ⟨rfl, fun _ => rfl, fun h => by simp at h, fun k x h => by
    match k, h with
    | 0, h => simp at h; subst h; simp [IntC]⟩, Nat.le_refl _, Nat.le_refl _⟩

theorem intAt_two (w : World) (a b : Int) (t : TypeId) : IntNew w.heap.size (w.alloc (.cells #[.int .i64 a, .int .i64 b] t)) (.slice (some ⟨w.heap.size, 0, none⟩) 2 2) [a, b] :=
  ⟨_, w.heap.size, 0, 2, ⟨rfl, fun _ => rfl, fun h => by simp at h, fun k x h => by
    match k, h with
    | 0, h => simp at h; subst h; simp [IntC]
    | 1, h => simp at h; subst h; simp [IntC]⟩, Nat.le_refl _, Nat.le_refl _⟩

theorem IntNew.of {B : Nat} {w : World} {v : Value} {l m : List Int} (h : IntNew B w v l) (e : m = l) : IntNew B w v m := by rw [e]; exact h

set_option maxHeartbeats 1000000 in
theorem kindsR_any (op : Int) (w : World) :
    Calls Try.prog 64 #[.int .i64 op] w fun e w' => ∃ v, e = .returned v ∧ IntNew w.heap.size w' v (kindsOf op) ∧ Below w.heap.size w w' := by
  go_enter Try.func64, Try.ntmps64
  go_wp2
  all_goals go_ret
  all_goals first
    | exact ⟨_, rfl, (intAt_one _ _ _).of (by simp [kindsOf, *]), below_alloc _ _⟩
    | exact ⟨_, rfl, (intAt_two _ _ _ _).of (by simp [kindsOf, *]), below_alloc _ _⟩
    | exact ⟨_, rfl, (intAt_nil _ _).of (by simp [kindsOf, *]), Below.refl _ _⟩

set_option maxHeartbeats 1000000 in
theorem kindsP_any (op : Int) (w : World) :
    Calls Try.prog 65 #[.int .i64 op] w fun e w' => ∃ v, e = .returned v ∧ IntNew w.heap.size w' v (kindsOf op) ∧ Below w.heap.size w w' := by
  go_enter Try.func65, Try.ntmps65
  go_wp2
  all_goals go_ret
  all_goals first
    | exact ⟨_, rfl, (intAt_one _ _ _).of (by simp [kindsOf, *]), below_alloc _ _⟩
    | exact ⟨_, rfl, (intAt_two _ _ _ _).of (by simp [kindsOf, *]), below_alloc _ _⟩
    | exact ⟨_, rfl, (intAt_nil _ _).of (by simp [kindsOf, *]), Below.refl _ _⟩

end Go.Proofs.Ytomijmikkbhgmaa

namespace Go.Proofs.Ytomijmikkbhgmaa
open Go.RowKit

theorem Try.info3 : (Try.prog.info? 3).map (fun i => (i.zero, i.size, i.bytes)) = some (some (.int .i64 0), 1, 8) := by kernel_rfl

theorem own_keep {w w' : World} {base : Nat} {e : TypeId} {size : Nat} {v : Value} {n : Nat} {xs : List Value} (h : w.ownsRow base e size v n xs) (hb : Below w.heap.size w w') : w'.ownsRow base e size v n xs := by
  refine ⟨h.1, ?_⟩
  rcases h.2 with h2 | ⟨g, cap, cur, hv, hg, hh, r⟩
  · exact Or.inl h2
  · exact Or.inr ⟨g, cap, cur, hv, hg, by rw [hb.block g (Array.getElem?_eq_some_iff.1 hh).1]; exact hh, r⟩

/-- An entry of lists of s entries each, laid one behind the other. -/
theorem flat_get {α β : Type} (f : α → List β) (s : Nat) (hf : ∀ x, (f x).length = s) (l : List α) (k j : Nat) (x : α) (hx : l[k]? = some x) (hj : j < s) : (l.flatMap f)[k * s + j]? = (f x)[j]? := by
  induction l generalizing k with
  | nil => simp at hx
  | cons a l ih =>
    cases k with
    | zero => simp at hx; subst hx; rw [List.flatMap_cons, List.getElem?_append_left (by rw [hf]; omega)]; simp
    | succ k =>
      rw [List.flatMap_cons, List.getElem?_append_right (by rw [hf, Nat.add_mul]; omega), hf]
      rw [show (k + 1) * s + j - s = k * s + j by rw [Nat.add_mul]; omega]
      exact ih k (by simpa using hx)

theorem flat_len {α β : Type} (f : α → List β) (s : Nat) (hf : ∀ x, (f x).length = s) (l : List α) : (l.flatMap f).length = l.length * s := by
  induction l with
  | nil => simp
  | cons a l ih => rw [List.flatMap_cons, List.length_append, ih, hf, List.length_cons, Nat.add_mul]; omega

/-- What is owned, read as a list. -/
theorem owns_read {α : Type} {C : World → Nat → Nat → α → Prop} (f : α → List Value) (s : Nat) (hf : ∀ x, (f x).length = s)
    {w : World} (hC : ∀ b off x, (∀ j u, (f x)[j]? = some u → w.cell? ⟨b, off + j, none⟩ = some u) → C w b off x)
    {base : Nat} {e : TypeId} {v : Value} {l : List α} (h : w.ownsRow base e s v l.length (l.flatMap f)) : ∃ ao b off cap, SlAt w s C v l ao b off cap ∧ base ≤ b ∧ l.length ≤ cap := by
  rcases h.2 with ⟨rfl, hn⟩ | ⟨g, cap, cur, rfl, hg, hh, hnc, _, _, htake⟩
  · have : l = [] := List.eq_nil_of_length_eq_zero hn
    subst this
    exact ⟨none, base, 0, 0, ⟨rfl, fun h => absurd rfl h, fun _ => ⟨rfl, rfl⟩, fun k x h => by simp at h⟩, Nat.le_refl _, Nat.le_refl _⟩
  · refine ⟨_, g, 0, cap, ⟨rfl, fun _ => rfl, fun h => by simp at h, fun k x hx => hC _ _ _ fun j u hu => ?_⟩, hg, hnc⟩
    have hj : j < s := by have := (List.getElem?_eq_some_iff.1 hu).1; rw [hf] at this; exact this
    have := h.cells (g := g) rfl (k * s + j) u (by rw [flat_get f s hf l k j x hx hj]; exact hu)
    rw [Addr.add_lit] at this
    rw [Nat.zero_add] at this ⊢
    exact this

theorem flat_one (l : List Int) : l.flatMap (fun x => [Value.int .i64 x]) = l.map (Value.int .i64) := by
  induction l with
  | nil => rfl
  | cons a l ih => rw [List.flatMap_cons, ih]; rfl

theorem owns_int {w : World} {base : Nat} {e : TypeId} {v : Value} {l : List Int} (h : w.ownsRow base e 1 v l.length (l.map (Value.int .i64))) : IntNew base w v l := by
  refine owns_read (C := IntC) (fun x => [Value.int .i64 x]) 1 (fun _ => rfl) (fun b off x hx => ?_) (by rw [flat_one]; exact h)
  exact hx 0 _ rfl

theorem own_snoc {w : World} {base : Nat} {e : TypeId} {v : Value} {xs : List Int} {a : Int} (h : w.ownsRow base e 1 v (xs.length + 1) (xs.map (Value.int .i64) ++ [.int .i64 a])) :
    w.ownsRow base e 1 v (xs ++ [a]).length ((xs ++ [a]).map (Value.int .i64)) := by simpa using h

/-- The one new cell ahead of an append of one number. -/
theorem new_one {W : World} {v : Value} {t : TypeId} {n : Nat} (hn : n = W.heap.size) : ∀ j u, [v][j]? = some u → (W.alloc (.cells #[v] t)).cell? ((⟨n, 0, none⟩ : Addr).add j) = some u := by
  intro j u hj
  subst hn
  match j, hj with
  | 0, hj => simp at hj; subst hj; simp [Addr.add]

theorem own_base {w : World} {base base' : Nat} {e : TypeId} {size : Nat} {v : Value} {n : Nat} {xs : List Value} (h : w.ownsRow base e size v n xs) (hb : base' ≤ base) : w.ownsRow base' e size v n xs := by
  refine ⟨h.1, ?_⟩
  rcases h.2 with h2 | ⟨g, cap, cur, hv, hg, r⟩
  · exact Or.inl h2
  · exact Or.inr ⟨g, cap, cur, hv, by omega, r⟩

/-- append onto a row of the call's own, whatever is appended (nil, too); and the row behind it is the old one or a new one. -/
theorem run_append_new {P : Program} (w : World) (t ty : TypeId)
    (base : Nat) (e : TypeId) (i : TypeInfo) (z : Value) (size bytes : Nat) (ht : P.underlying t = some (.slice e)) (hi : P.info? e = some i) (hz : i.zero = some z)
    (hsize : i.size = size) (hby : i.bytes = bytes) (hzs : z.cells.size = size) (hsz : 0 < size)
    (v : Value) (n : Nat) (xs : List Value) (hown : w.ownsRow base e size v n xs)
    (ao : Option Addr) (m c : Nat) (news : List Value) (hnone : ao = none → m = 0 ∧ c = 0) (hl : news.length = m * size) (hnews : ∀ ad, ao = some ad → ∀ j u, news[j]? = some u → w.cell? (ad.add j) = some u) (h1 : ∀ u ∈ news, u.oneCell' = true)
    (h63 : n + m ≤ maxLen) (hbytes : (n + m) * bytes ≤ 140737488355328) (hbase : base ≤ w.heap.size) :
    ∃ v' w', (Builtin.append_ #[t, t] ty #[v, .slice ao m c]).run P w = .ok v' w' ∧ w'.ownsRow base e size v' (n + m) (xs ++ news) ∧ w.grownBy w' v.ownBlock ∧ (∀ g, v'.ownBlock = some g → v.ownBlock = some g ∨ w.heap.size ≤ g) := by
  cases ao with
  | none =>
    obtain ⟨rfl, rfl⟩ := hnone rfl
    have hn : news = [] := List.eq_nil_of_length_eq_zero (by simpa using hl)
    subst hn
    exact ⟨v, w, run_append_owned_none (P := P) (w := w) base t ty e i size ht hi v n xs hown, by simpa using hown, World.grownBy.refl _ _, fun g hg => .inl hg⟩
  | some ad =>
    rcases hown.2 with ⟨rfl, rfl⟩ | ⟨g, cap, cur, rfl, hbg, hg, hnc, hcm, hcs, htake⟩
    · have hx0 : xs = [] := List.eq_nil_of_length_eq_zero (by simpa using hown.1)
      subst hx0
      obtain ⟨v', w', hr, ho', hg', _⟩ := run_append_own (P := P) w w.heap.size t ty e i z size bytes ht hi hz hsize hby hzs hsz _ 0 [] (World.ownsRow_nil _ _ _ _) ad m c news hl (hnews ad rfl) h1 h63 hbytes (Nat.le_refl _)
      exact ⟨v', w', hr, own_base ho' hbase, hg', fun g hg => .inr (ho'.lt g hg).1⟩
    · by_cases hroom : n + m ≤ cap
      · obtain ⟨w', hr, ho', hg'⟩ := run_append_fits (P := P) w base t ty e i size ht hi hsize g n cap xs hown ad m c news hl (hnews ad rfl) h1 hroom
        exact ⟨_, w', hr, ho', hg', fun g' hg'' => .inl hg''⟩
      · obtain ⟨v', w', hr, ho', hg'⟩ := run_append_arg_grows (P := P) w t ty e i z size bytes ht hi hz hsize hby hzs hsz ⟨g, 0, none⟩ n cap xs hown.1 (hown.cells (g := g) rfl) ad m c news hl (hnews ad rfl) (by omega) h63 hbytes
        exact ⟨v', w', hr, own_base ho' hbase, ⟨hg'.os, hg'.tape, hg'.output, hg'.size, fun k hk _ => hg'.block k hk (by simp)⟩, fun g hg => .inr (ho'.lt g hg).1⟩

theorem append_new {P : Program} (w : World) {ops : Array Oper} {rest : List Oper} {o : Oper} {a : Act} {Q : Exit → Act → World → Prop} (hgd : o.guard = none) (s x : Operand) (t : TypeId)
    (ho : o.op = .call { callee := .builtin .append, args := #[s, x], argTypes := #[t, t] })
    (base : Nat) (e : TypeId) (i : TypeInfo) (z : Value) (size bytes : Nat) (ht : P.underlying t = some (.slice e)) (hi : P.info? e = some i) (hz : i.zero = some z)
    (hsize : i.size = size) (hby : i.bytes = bytes) (hzs : z.cells.size = size) (hsz : 0 < size)
    (v : Value) (n : Nat) (xs : List Value) (hs : a.eval s = v) (hown : w.ownsRow base e size v n xs)
    (ao : Option Addr) (m c : Nat) (news : List Value) (hx : a.eval x = .slice ao m c) (hnone : ao = none → m = 0 ∧ c = 0) (hl : news.length = m * size) (hnews : ∀ ad, ao = some ad → ∀ j u, news[j]? = some u → w.cell? (ad.add j) = some u) (h1 : ∀ u ∈ news, u.oneCell' = true)
    (h63 : n + m ≤ maxLen) (hbytes : (n + m) * bytes ≤ 140737488355328) (hbase : base ≤ w.heap.size)
    (h : ∀ v' w', w'.ownsRow base e size v' (n + m) (xs ++ news) → w.grownBy w' v.ownBlock → (∀ g, v'.ownBlock = some g → v.ownBlock = some g ∨ w.heap.size ≤ g) → wpList P ops Q rest (a.put o.dst v') w') : wpList P ops Q (o :: rest) a w := by
  refine wpList_plain hgd fun K hK => ?_
  obtain ⟨v', w', hr, h2, h3, h4⟩ := run_append_new (P := P) w t o.type base e i z size bytes ht hi hz hsize hby hzs hsz v n xs hown ao m c news hnone hl hnews h1 h63 hbytes hbase
  unfold Oper.wp
  simp [execOp, ho, resolve, invoke, builtin, hs, hx, hr, Result.andThen]
  exact hK _ _ (h v' w' h2 h3 h4)

/-- The same as one step of a region that draws its order. -/
theorem step_append_new {P : Program} {ops : Array Oper} {o : Oper} {a : Act} (w : World) {K : Act → World → Prop} {Q : Exit → Act → World → Prop} {E : Prop} (hgd : o.guard = none) (s x : Operand) (t : TypeId)
    (ho : o.op = .call { callee := .builtin .append, args := #[s, x], argTypes := #[t, t] })
    (base : Nat) (e : TypeId) (i : TypeInfo) (z : Value) (size bytes : Nat) (ht : P.underlying t = some (.slice e)) (hi : P.info? e = some i) (hz : i.zero = some z)
    (hsize : i.size = size) (hby : i.bytes = bytes) (hzs : z.cells.size = size) (hsz : 0 < size)
    (v : Value) (n : Nat) (xs : List Value) (hs : a.eval s = v) (hown : w.ownsRow base e size v n xs)
    (ao : Option Addr) (m c : Nat) (news : List Value) (hx : a.eval x = .slice ao m c) (hnone : ao = none → m = 0 ∧ c = 0) (hl : news.length = m * size) (hnews : ∀ ad, ao = some ad → ∀ j u, news[j]? = some u → w.cell? (ad.add j) = some u) (h1 : ∀ u ∈ news, u.oneCell' = true)
    (h63 : n + m ≤ maxLen) (hbytes : (n + m) * bytes ≤ 140737488355328) (hbase : base ≤ w.heap.size)
    (h : ∀ v' w', w'.ownsRow base e size v' (n + m) (xs ++ news) → w.grownBy w' v.ownBlock → (∀ g, v'.ownBlock = some g → v.ownBlock = some g ∨ w.heap.size ≤ g) → K (a.put o.dst v') w') :
    if Region.wanted o (yielded ops a.tmps) = true then Oper.wp P o a w K Q else E := by
  have hw : Region.wanted o (yielded ops a.tmps) = true := by simp [Region.wanted, hgd]
  rw [if_pos hw]
  obtain ⟨v', w', hr, h2, h3, h4⟩ := run_append_new (P := P) w t o.type base e i z size bytes ht hi hz hsize hby hzs hsz v n xs hown ao m c news hnone hl hnews h1 h63 hbytes hbase
  unfold Oper.wp
  simp [execOp, ho, resolve, invoke, builtin, hs, hx, hr, Result.andThen]
  exact h v' w' h2 h3 h4

/-- Since w0 nothing has turned but the row g0; and what is owned now is that row, or newer. -/
structure Aw (w0 wr : World) (g0 : Option Nat) (u : Value) : Prop where
  size : w0.heap.size ≤ wr.heap.size
  block : ∀ k, k < w0.heap.size → some k ≠ g0 → wr.heap[k]? = w0.heap[k]?
  own : ∀ g, u.ownBlock = some g → some g = g0 ∨ w0.heap.size ≤ g

theorem Aw.refl (w : World) (u : Value) : Aw w w u.ownBlock u := ⟨Nat.le_refl _, fun _ _ _ => rfl, fun _ h => .inl h.symm⟩
theorem Aw.below {w0 w1 w2 : World} {g0 : Option Nat} {u : Value} (h : Aw w0 w1 g0 u) (hb : Below w1.heap.size w1 w2) : Aw w0 w2 g0 u :=
  ⟨Nat.le_trans h.size hb.size, fun k hk hn => (hb.block k (Nat.lt_of_lt_of_le hk h.size)).trans (h.block k hk hn), h.own⟩
theorem Aw.grown {w0 w1 w2 : World} {g0 : Option Nat} {u u' : Value} (h : Aw w0 w1 g0 u) (hg : w1.grownBy w2 u.ownBlock) (hu : ∀ g, u'.ownBlock = some g → u.ownBlock = some g ∨ w1.heap.size ≤ g) : Aw w0 w2 g0 u' := by
  refine ⟨Nat.le_trans h.size hg.size, fun k hk hn => ?_, fun g hg' => ?_⟩
  · rw [hg.block k (Nat.lt_of_lt_of_le hk h.size) (fun e => ?_)]
    · exact h.block k hk hn
    · rcases h.own k e.symm with h' | h'
      · exact hn h'
      · omega
  · rcases hu g hg' with h' | h'
    · exact h.own g h'
    · exact .inr (Nat.le_trans h.size h')
theorem Aw.cell {w0 wr : World} {g0 : Option Nat} {u : Value} (h : Aw w0 wr g0 u) {b o : Nat} {v : Value} (hc : w0.cell? ⟨b, o, none⟩ = some v) (hn : some b ≠ g0) : wr.cell? ⟨b, o, none⟩ = some v :=
  (World.cell?_of_block (w := w0) (h.block b (World.block_lt_of_cell? w0 _ hc) hn)).trans hc

theorem own_one (w : World) (a : Int) (t : TypeId) : (w.alloc (.cells #[.int .i64 a] t)).ownsRow w.heap.size t 1 (.slice (some ⟨w.heap.size, 0, none⟩) 1 1) [a].length ([a].map (Value.int .i64)) :=
  ⟨rfl, .inr ⟨w.heap.size, 1, #[.int .i64 a], rfl, Nat.le_refl _, heap_alloc_new w _, Nat.le_refl _, by unfold maxLen; omega, rfl, rfl⟩⟩

end Go.Proofs.Ytomijmikkbhgmaa
