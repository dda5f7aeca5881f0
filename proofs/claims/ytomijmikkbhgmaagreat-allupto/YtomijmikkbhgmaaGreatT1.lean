import Derived.WalkKit
import Derived.WalkSpells
import Derived.WalkLawsBesides
import Derived.Test.YtomijmikkbhgmaaGreatRows
import Derived.Deep.Light
import Derived.ProofKit
import Derived.SizedLaws
import Derived.Lib.SmallJoins
import Derived.Deep.Slices
namespace Go.Proofs.YtomijmikkbhgmaaGreat

structure Ins where
  (op loc reg val mode : Int)

structure Atm where
  (thread at' val : Int)

structure Evt where
  (thread place kind loc : Int)
  ins : Ins

/-! P3: what may be -/
def locB (n : Int) : Bool := decide (0 ≤ n) && decide (n < 3)
def valB (n : Int) : Bool := decide (0 ≤ n) && decide (n ≤ 3)
def wModeB (n : Int) : Bool := n == 0 || n == 2
def rModeB (n : Int) : Bool := n == 0 || n == 1
def fModeB (n : Int) : Bool := n == 0 || n == 1 || n == 2

def mayB (x : Ins) : Bool :=
  if x.op == 0 then locB x.loc && x.reg == 0 && valB x.val && wModeB x.mode
  else if x.op == 1 then locB x.loc && locB x.reg && x.val == 0 && wModeB x.mode
  else if x.op == 2 then locB x.loc && locB x.reg && x.val == 0 && rModeB x.mode
  else if x.op == 3 then locB x.loc && locB x.reg && valB x.val && (rModeB x.mode || wModeB x.mode)
  else if x.op == 4 then x.loc == 0 && x.reg == 0 && x.val == 0 && fModeB x.mode
  else if x.op == 5 || x.op == 6 || x.op == 7 then x.loc == 0 && x.reg == 0 && x.val == 0 && x.mode == 0
  else false

def atmB (a : Atm) (n : Int) : Bool :=
  valB a.val && (if a.thread == -1 then locB a.at' else decide (0 ≤ a.thread) && decide (a.thread < n) && locB a.at')

def lensB : List (List Ins) → Bool
  | [] => true
  | l :: T => decide (l.length ≤ 12) && lensB T

def sizeB (T : List (List Ins)) (c : List Atm) : Bool := decide (1 ≤ T.length) && decide (T.length ≤ 4) && lensB T && decide (c.length ≤ 6)

/-- The place of the first instruction that may not be. -/
def badAt : List Ins → Nat → Option Nat
  | [], _ => none
  | x :: l, j => if mayB x then badAt l (j + 1) else some j

def insF : List (List Ins) → Nat → Option Nat
  | [], _ => none
  | l :: T, i => match badAt l 0 with
    | some j => some (100 * i + j)
    | none => insF T (i + 1)

/-- Where a thread's sections are not well nested, or -1. -/
def nst : List Ins → Nat → Bool → Int
  | [], j, b => if b then j else -1
  | x :: l, j, b =>
    if x.op == 5 then (if b then j else nst l (j + 1) true)
    else if x.op == 6 then (if b then nst l (j + 1) false else j)
    else if x.op == 7 then (if b then j else nst l (j + 1) b)
    else nst l (j + 1) b

def nstF : List (List Ins) → Nat → Option Int
  | [], _ => none
  | l :: T, i => if 0 ≤ nst l 0 false then some (100 * i + nst l 0 false) else nstF T (i + 1)

def atmF : List Atm → Nat → Int → Option Nat
  | [], _, _ => none
  | a :: c, i, n => if atmB a n then atmF c (i + 1) n else some i

/-! P4: events -/
def kindsOf (op : Int) : List Int :=
  if op == 0 || op == 1 then [1] else if op == 2 then [0] else if op == 3 then [0, 1] else if op == 5 then [2] else if op == 6 then [3] else if op == 7 then [4, 5] else []

def evsK (i j : Nat) (x : Ins) (ks : List Int) : List Evt := ks.map fun k => ⟨i, j, k, x.loc, x⟩

def evsI (i : Nat) : List Ins → Nat → List Evt
  | [], _ => []
  | x :: l, j => evsK i j x (kindsOf x.op) ++ evsI i l (j + 1)

def evsT : List (List Ins) → Nat → List Evt
  | [], _ => []
  | l :: T, i => evsI i l 0 ++ evsT T (i + 1)

/-! P5: how many -/
def wrs : List Evt → Nat → Int → List Int
  | [], _, _ => []
  | x :: E, i, loc => if x.kind == 1 && x.loc == loc then (i : Int) :: wrs E (i + 1) loc else wrs E (i + 1) loc

def fac : Nat → Nat
  | 0 => 1
  | m + 1 => (m + 1) * fac m

def prodR (E : List Evt) : List Evt → Nat
  | [] => 1
  | x :: R => (if x.kind == 0 then 1 + (wrs E 0 x.loc).length else 1) * prodR E R

def sizeN (E : List Evt) : Nat := prodR E E * (fac (wrs E 0 0).length * (fac (wrs E 0 1).length * fac (wrs E 0 2).length))

def cap2 (n : Nat) : Nat := if 2000 < n then 2001 else n

def cntO (op : Int) : List (List Ins) → Nat
  | [] => 0
  | l :: T => (l.filter fun x => x.op == op).length + cntO op T

def cntK (k : Int) (E : List Evt) : Nat := (E.filter fun x => x.kind == k).length

def manyB (T : List (List Ins)) : Bool := decide (3 < cntO 5 T) || decide (2 < cntO 7 T) || decide (2000 < cap2 (sizeN (evsT T 0)))

/-- Check: the error and the place. -/
def chk (T : List (List Ins)) (c : List Atm) : Int × Int :=
  if sizeB T c then
    match insF T 0 with
    | some p => (2, p)
    | none => match nstF T 0 with
      | some p => (3, p)
      | none => match atmF c 0 T.length with
        | some p => (4, p)
        | none => if manyB T then (5, 0) else (0, 0)
  else (1, 0)

theorem nst_cons7 (x : Ins) (l : List Ins) (j : Nat) (b : Bool) : nst (x :: l) j b =
    if x.op == 5 then (if b then (j : Int) else nst l (j + 1) true)
    else if x.op == 7 then (if b then (j : Int) else nst l (j + 1) b)
    else if x.op == 6 then (if b then nst l (j + 1) false else (j : Int))
    else nst l (j + 1) b := by
  rw [nst]
  by_cases h6 : x.op = 6
  · simp [h6]
  · by_cases h7 : x.op = 7 <;> simp [h6, h7]

theorem insF_bad {l : List Ins} {j : Nat} (h : badAt l 0 = some j) (T : List (List Ins)) (k : Nat) : insF (l :: T) k = some (100 * k + j) := by rw [insF, h]
theorem insF_ok {l : List Ins} (h : badAt l 0 = none) (T : List (List Ins)) (k : Nat) : insF (l :: T) k = insF T (k + 1) := by rw [insF, h]
theorem badAt_bad {x : Ins} (h : mayB x = false) (l : List Ins) (j : Nat) : badAt (x :: l) j = some j := by rw [badAt, if_neg (by simp [h])]
theorem badAt_ok {x : Ins} (h : mayB x = true) (l : List Ins) (j : Nat) : badAt (x :: l) j = badAt l (j + 1) := by rw [badAt, if_pos h]
theorem nstF_bad {l : List Ins} (h : 0 ≤ nst l 0 false) (T : List (List Ins)) (k : Nat) : nstF (l :: T) k = some (100 * k + nst l 0 false) := by rw [nstF, if_pos h]
theorem nstF_ok {l : List Ins} (h : ¬ 0 ≤ nst l 0 false) (T : List (List Ins)) (k : Nat) : nstF (l :: T) k = nstF T (k + 1) := by rw [nstF, if_neg h]
theorem atmF_bad {a : Atm} {n : Int} (h : atmB a n = false) (c : List Atm) (i : Nat) : atmF (a :: c) i n = some i := by rw [atmF, if_neg (by simp [h])]
theorem atmF_ok {a : Atm} {n : Int} (h : atmB a n = true) (c : List Atm) (i : Nat) : atmF (a :: c) i n = atmF c (i + 1) n := by rw [atmF, if_pos h]

theorem nst_le (l : List Ins) (j : Nat) (b : Bool) : nst l j b ≤ j + l.length ∧ -1 ≤ nst l j b := by
  induction l generalizing j b with
  | nil => rw [nst]; split <;> simp <;> omega
  | cons x l ih =>
    have h1 := ih (j + 1) true; have h2 := ih (j + 1) false; have h3 := ih (j + 1) b
    rw [nst]
    simp only [List.length_cons]
    repeat' split
    all_goals omega

/-! small facts -/
theorem drop_cons {α : Type} {l : List α} {k : Nat} {x : α} (h : l[k]? = some x) : l.drop k = x :: l.drop (k + 1) := by
  obtain ⟨hk, rfl⟩ := List.getElem?_eq_some_iff.1 h
  exact List.drop_eq_getElem_cons hk

theorem take_snoc {α : Type} {l : List α} {k : Nat} {x : α} (h : l[k]? = some x) : l.take (k + 1) = l.take k ++ [x] := by
  obtain ⟨hk, rfl⟩ := List.getElem?_eq_some_iff.1 h
  exact List.take_succ_eq_append_getElem hk

theorem drop_nil {α : Type} {l : List α} {k : Nat} (h : ¬ k < l.length) : l.drop k = [] := List.drop_eq_nil_of_le (by omega)

theorem get_of_lt {α : Type} {l : List α} {k : Nat} (h : k < l.length) : ∃ x, l[k]? = some x := ⟨l[k], List.getElem?_eq_getElem h⟩

theorem lensB_get {T : List (List Ins)} (h : lensB T = true) {k : Nat} {l : List Ins} (hk : T[k]? = some l) : l.length ≤ 12 := by
  induction T generalizing k with
  | nil => simp at hk
  | cons a T ih =>
    simp only [lensB, Bool.and_eq_true, decide_eq_true_eq] at h
    cases k with
    | zero => simp at hk; subst hk; exact h.1
    | succ k => exact ih h.2 (by simpa using hk)

theorem cap2_le (n : Nat) : cap2 n ≤ 2001 := by unfold cap2; split <;> omega
theorem cap2_of_le {n : Nat} (h : n ≤ 2001) : cap2 n = n := by unfold cap2; split <;> omega
theorem cap2_mul (a f : Nat) (hf : 1 ≤ f) : cap2 (cap2 a * f) = cap2 (a * f) := by
  unfold cap2
  by_cases h : 2000 < a
  · have h1 : 2000 < 2001 * f := by have := Nat.mul_le_mul_left 2001 hf; omega
    have h2 : 2000 < a * f := by have := Nat.mul_le_mul_left a hf; omega
    rw [if_pos h, if_pos h1, if_pos h2]
  · rw [if_neg h]

theorem fac_pos (m : Nat) : 1 ≤ fac m := by
  induction m with
  | zero => exact Nat.le_refl 1
  | succ m ih => unfold fac; have := Nat.mul_le_mul (show 1 ≤ m + 1 by omega) ih; omega

theorem prodR_pos (E R : List Evt) : 1 ≤ prodR E R := by
  induction R with
  | nil => exact Nat.le_refl 1
  | cons x R ih =>
    unfold prodR
    have h1 : 1 ≤ (if x.kind == 0 then 1 + (wrs E 0 x.loc).length else 1) := by split <;> omega
    have := Nat.mul_le_mul h1 ih; omega

theorem wrs_len (E : List Evt) (i : Nat) (loc : Int) : (wrs E i loc).length ≤ E.length := by
  induction E generalizing i with
  | nil => simp [wrs]
  | cons x E ih =>
    unfold wrs
    have := ih (i + 1)
    split <;> simp <;> omega

theorem kindsOf_len (op : Int) : (kindsOf op).length ≤ 2 := by
  unfold kindsOf
  repeat' split
  all_goals simp

theorem evsI_len (i : Nat) (l : List Ins) (j : Nat) : (evsI i l j).length ≤ 2 * l.length := by
  induction l generalizing j with
  | nil => simp [evsI]
  | cons x l ih =>
    have := ih (j + 1); have := kindsOf_len x.op
    simp [evsI, evsK]; omega

theorem evsT_len (T : List (List Ins)) (i : Nat) (h : lensB T = true) : (evsT T i).length ≤ 24 * T.length := by
  induction T generalizing i with
  | nil => simp [evsT]
  | cons l T ih =>
    simp only [lensB, Bool.and_eq_true, decide_eq_true_eq] at h
    have := ih (i + 1) h.2; have := evsI_len i l 0
    simp [evsT]; omega

/-- The events that mark a section's begin are as many as the Enters. -/
theorem cntK_evsI (op k : Int) (hk : ∀ o : Int, ((kindsOf o).filter fun q => q == k).length = if o == op then 1 else 0) (i : Nat) (l : List Ins) (j : Nat) :
    cntK k (evsI i l j) = (l.filter fun x => x.op == op).length := by
  induction l generalizing j with
  | nil => rfl
  | cons x l ih =>
    have h1 := hk x.op
    have h2 : cntK k (evsK i j x (kindsOf x.op)) = if x.op == op then 1 else 0 := by
      rw [← h1]; unfold cntK evsK; rw [List.filter_map, List.length_map]; rfl
    have h3 := ih (j + 1)
    unfold cntK at h2 h3 ⊢
    rw [evsI, List.filter_append, List.length_append, h2, h3, List.filter_cons]
    cases x.op == op <;> simp <;> omega

theorem cntK_evsT (op k : Int) (hk : ∀ o : Int, ((kindsOf o).filter fun q => q == k).length = if o == op then 1 else 0) (T : List (List Ins)) (i : Nat) :
    cntK k (evsT T i) = cntO op T := by
  induction T generalizing i with
  | nil => rfl
  | cons l T ih =>
    have h1 := cntK_evsI op k hk i l 0
    have h2 := ih (i + 1)
    unfold cntK at h1 h2 ⊢
    rw [evsT, List.filter_append, List.length_append, h1, h2, cntO]

theorem kinds_enter (o : Int) : ((kindsOf o).filter fun q => q == 2).length = if o == 5 then 1 else 0 := by
  unfold kindsOf
  repeat' split
  all_goals simp_all

theorem kinds_sync (o : Int) : ((kindsOf o).filter fun q => q == 4).length = if o == 7 then 1 else 0 := by
  unfold kindsOf
  repeat' split
  all_goals simp_all

end Go.Proofs.YtomijmikkbhgmaaGreat

namespace Go.Proofs.YtomijmikkbhgmaaGreat
open Go.RowKit

/-- Cells of an instruction at an address. -/
structure InsC (w : World) (b off : Nat) (x : Ins) : Prop where
  c0 : w.cell? ⟨b, off, none⟩ = some (.int .i64 x.op)
  c1 : w.cell? ⟨b, off + 1, none⟩ = some (.int .i64 x.loc)
  c2 : w.cell? ⟨b, off + 2, none⟩ = some (.int .i64 x.reg)
  c3 : w.cell? ⟨b, off + 3, none⟩ = some (.int .i64 x.val)
  c4 : w.cell? ⟨b, off + 4, none⟩ = some (.int .i64 x.mode)

structure AtmC (w : World) (b off : Nat) (x : Atm) : Prop where
  c0 : w.cell? ⟨b, off, none⟩ = some (.int .i64 x.thread)
  c1 : w.cell? ⟨b, off + 1, none⟩ = some (.int .i64 x.at')
  c2 : w.cell? ⟨b, off + 2, none⟩ = some (.int .i64 x.val)

structure Ev4C (w : World) (b off : Nat) (x : Evt) : Prop where
  c0 : w.cell? ⟨b, off, none⟩ = some (.int .i64 x.thread)
  c1 : w.cell? ⟨b, off + 1, none⟩ = some (.int .i64 x.place)
  c2 : w.cell? ⟨b, off + 2, none⟩ = some (.int .i64 x.kind)
  c3 : w.cell? ⟨b, off + 3, none⟩ = some (.int .i64 x.loc)

structure Ev9C (w : World) (b off : Nat) (x : Evt) : Prop where
  c0 : w.cell? ⟨b, off, none⟩ = some (.int .i64 x.thread)
  c1 : w.cell? ⟨b, off + 1, none⟩ = some (.int .i64 x.place)
  c2 : w.cell? ⟨b, off + 2, none⟩ = some (.int .i64 x.kind)
  c3 : w.cell? ⟨b, off + 3, none⟩ = some (.int .i64 x.loc)
  c4 : w.cell? ⟨b, off + 4, none⟩ = some (.int .i64 x.ins.op)
  c5 : w.cell? ⟨b, off + 5, none⟩ = some (.int .i64 x.ins.loc)
  c6 : w.cell? ⟨b, off + 6, none⟩ = some (.int .i64 x.ins.reg)
  c7 : w.cell? ⟨b, off + 7, none⟩ = some (.int .i64 x.ins.val)
  c8 : w.cell? ⟨b, off + 8, none⟩ = some (.int .i64 x.ins.mode)

/-- A slice of such: element k, of s cells, lies at off + k * s and is told by 'C'. -/
structure SlAt {α : Type} (w : World) (s : Nat) (C : World → Nat → Nat → α → Prop) (v : Value) (l : List α) (ao : Option Addr) (b off cap : Nat) : Prop where
  hv : v = .slice ao l.length cap
  ha : l ≠ [] → ao = some ⟨b, off, none⟩
  hn : ao = none → l = [] ∧ cap = 0
  hc : ∀ k x, l[k]? = some x → C w b (off + k * s) x

def InsAt (w : World) (v : Value) (l : List Ins) : Prop := l.length * 40 ≤ 140737488351232 ∧ ∃ ao b off cap, SlAt w 5 InsC v l ao b off cap
def AtmAt (w : World) (v : Value) (l : List Atm) : Prop := l.length * 24 ≤ 140737488351232 ∧ ∃ ao b off cap, SlAt w 3 AtmC v l ao b off cap
def Ev4At (w : World) (v : Value) (l : List Evt) : Prop := ∃ ao b off cap, SlAt w 4 Ev4C v l ao b off cap
def Ev9At (w : World) (v : Value) (l : List Evt) : Prop := ∃ ao b off cap, SlAt w 9 Ev9C v l ao b off cap
def IntC (w : World) (b off : Nat) (x : Int) : Prop := w.cell? ⟨b, off, none⟩ = some (.int .i64 x)
def IntAt (w : World) (v : Value) (l : List Int) : Prop := ∃ ao b off cap, SlAt w 1 IntC v l ao b off cap
def ThrC (w : World) (b off : Nat) (l : List Ins) : Prop := ∃ u, w.cell? ⟨b, off, none⟩ = some u ∧ InsAt w u l
def ThrAt (w : World) (v : Value) (T : List (List Ins)) : Prop := T.length * 24 ≤ 140737488351232 ∧ ∃ ao b off cap, SlAt w 1 ThrC v T ao b off cap

/-- What is told of cells stays while the cells stay. -/
def Keeps {α : Type} (C : World → Nat → Nat → α → Prop) : Prop := ∀ w w' b off x, Below w.heap.size w w' → C w b off x → C w' b off x

theorem keep_cell {w w' : World} (hb : Below w.heap.size w w') {b off : Nat} {u : Value} (h : w.cell? ⟨b, off, none⟩ = some u) : w'.cell? ⟨b, off, none⟩ = some u :=
  (hb.cell (p := ⟨b, off, none⟩) (World.block_lt_of_cell? w _ h)).trans h

theorem SlAt.keep {α : Type} {C : World → Nat → Nat → α → Prop} (K : Keeps C) {w w' : World} {s : Nat} {v : Value} {l : List α} {ao : Option Addr} {b off cap : Nat}
    (h : SlAt w s C v l ao b off cap) (hb : Below w.heap.size w w') : SlAt w' s C v l ao b off cap := ⟨h.hv, h.ha, h.hn, fun k x hx => K _ _ _ _ _ hb (h.hc k x hx)⟩

theorem insC_keeps : Keeps InsC := fun _ _ _ _ _ hb h => ⟨keep_cell hb h.c0, keep_cell hb h.c1, keep_cell hb h.c2, keep_cell hb h.c3, keep_cell hb h.c4⟩
theorem atmC_keeps : Keeps AtmC := fun _ _ _ _ _ hb h => ⟨keep_cell hb h.c0, keep_cell hb h.c1, keep_cell hb h.c2⟩
theorem ev4C_keeps : Keeps Ev4C := fun _ _ _ _ _ hb h => ⟨keep_cell hb h.c0, keep_cell hb h.c1, keep_cell hb h.c2, keep_cell hb h.c3⟩
theorem ev9C_keeps : Keeps Ev9C := fun _ _ _ _ _ hb h => ⟨keep_cell hb h.c0, keep_cell hb h.c1, keep_cell hb h.c2, keep_cell hb h.c3, keep_cell hb h.c4, keep_cell hb h.c5, keep_cell hb h.c6, keep_cell hb h.c7, keep_cell hb h.c8⟩
theorem intC_keeps : Keeps IntC := fun _ _ _ _ _ hb h => keep_cell hb h

theorem InsAt.keep {w w' : World} {v : Value} {l : List Ins} (h : InsAt w v l) (hb : Below w.heap.size w w') : InsAt w' v l := by
  obtain ⟨h0, ao, b, off, cap, h⟩ := h
  exact ⟨h0, ao, b, off, cap, h.keep insC_keeps hb⟩
theorem AtmAt.keep {w w' : World} {v : Value} {l : List Atm} (h : AtmAt w v l) (hb : Below w.heap.size w w') : AtmAt w' v l := by
  obtain ⟨h0, ao, b, off, cap, h⟩ := h
  exact ⟨h0, ao, b, off, cap, h.keep atmC_keeps hb⟩
theorem Ev4At.keep {w w' : World} {v : Value} {l : List Evt} (h : Ev4At w v l) (hb : Below w.heap.size w w') : Ev4At w' v l := by
  obtain ⟨ao, b, off, cap, h⟩ := h
  exact ⟨ao, b, off, cap, h.keep ev4C_keeps hb⟩
theorem Ev9At.keep {w w' : World} {v : Value} {l : List Evt} (h : Ev9At w v l) (hb : Below w.heap.size w w') : Ev9At w' v l := by
  obtain ⟨ao, b, off, cap, h⟩ := h
  exact ⟨ao, b, off, cap, h.keep ev9C_keeps hb⟩
theorem IntAt.keep {w w' : World} {v : Value} {l : List Int} (h : IntAt w v l) (hb : Below w.heap.size w w') : IntAt w' v l := by
  obtain ⟨ao, b, off, cap, h⟩ := h
  exact ⟨ao, b, off, cap, h.keep intC_keeps hb⟩
theorem thrC_keeps : Keeps ThrC := fun _ _ _ _ _ hb ⟨u, h1, h2⟩ => ⟨u, keep_cell hb h1, h2.keep hb⟩
theorem ThrAt.keep {w w' : World} {v : Value} {T : List (List Ins)} (h : ThrAt w v T) (hb : Below w.heap.size w w') : ThrAt w' v T := by
  obtain ⟨h0, ao, b, off, cap, h⟩ := h
  exact ⟨h0, ao, b, off, cap, h.keep thrC_keeps hb⟩

theorem below_alloc (w : World) (o : Obj) : Below w.heap.size w (w.alloc o) := (Below.refl _ _).alloc (Nat.le_refl _) _

theorem below_two (w : World) (o o' : Obj) : Below w.heap.size w ((w.alloc o).alloc o') := (below_alloc w o).alloc (by simp) _

theorem below_more {w w1 w2 : World} (h : Below w.heap.size w w1) (k : Below w1.heap.size w1 w2) : Below w.heap.size w w2 := h.trans (k.mono h.size)

/-- A slice of threads, opened: at each place a slice of instructions. -/
theorem ThrAt.opened {w : World} {v : Value} {T : List (List Ins)} (h : ThrAt w v T) : T.length * 24 ≤ 140737488351232 ∧ ∃ ao b off cap, v = .slice ao T.length cap ∧ (T ≠ [] → ao = some ⟨b, off, none⟩) ∧ (ao = none → T = [] ∧ cap = 0) ∧
    ∀ k l, T[k]? = some l → b < w.heap.size ∧ ∃ ao' cap', w.cell? ⟨b, off + k, none⟩ = some (.slice ao' l.length cap') ∧ InsAt w (.slice ao' l.length cap') l := by
  obtain ⟨h0, ao, b, off, cap, hv, ha, hn, hc⟩ := h
  refine ⟨h0, ao, b, off, cap, hv, ha, hn, fun k l hk => ?_⟩
  obtain ⟨u, hu, hi⟩ := hc k l hk
  rw [Nat.mul_one] at hu
  obtain ⟨i0, ao', b', off', cap', hs⟩ := hi
  have := hs.hv; subst this
  exact ⟨World.block_lt_of_cell? w _ hu, ao', cap', hu, i0, ao', b', off', cap', hs⟩

theorem InsC.lt {w : World} {b off : Nat} {x : Ins} (h : InsC w b off x) : b < w.heap.size := World.block_lt_of_cell? w _ h.c0
theorem AtmC.lt {w : World} {b off : Nat} {x : Atm} (h : AtmC w b off x) : b < w.heap.size := World.block_lt_of_cell? w _ h.c0

theorem ne_nil {α : Type} {l : List α} {k : Nat} (h : k < l.length) : l ≠ [] := by intro h0; subst h0; simp at h

/-- A list of numbers in memory that is new: from block B on. -/
def IntNew (B : Nat) (w : World) (v : Value) (l : List Int) : Prop := ∃ ao b off cap, SlAt w 1 IntC v l ao b off cap ∧ B ≤ b ∧ l.length ≤ cap

theorem IntNew.at' {B : Nat} {w : World} {v : Value} {l : List Int} (h : IntNew B w v l) : IntAt w v l := by
  obtain ⟨ao, b, off, cap, h, _⟩ := h
  exact ⟨ao, b, off, cap, h⟩

end Go.Proofs.YtomijmikkbhgmaaGreat

namespace Go.Proofs.YtomijmikkbhgmaaGreat
open Go.RowKit

theorem ret_bool {a b : Bool} (h : a = b) : Ending.returned (.bool a) = .returned (.bool b) := by rw [h]
theorem ret_int {a b : Int} (h : a = b) : Ending.returned (.int .i64 a) = .returned (.int .i64 b) := by rw [h]

theorem isLoc_any (n : Int) (w : World) :
    Calls Tryz.prog 153 #[.int .i64 n] w fun e w' => e = .returned (.bool (locB n)) ∧ w' = w := by
  unfold locB
  go_enter Tryz.func153, Tryz.ntmps153
  go_wp2
  all_goals go_ret
  all_goals exact ⟨ret_bool (by first | (simp; done) | (simp; omega)), rfl⟩

theorem isReg_any (n : Int) (w : World) :
    Calls Tryz.prog 156 #[.int .i64 n] w fun e w' => e = .returned (.bool (locB n)) ∧ w' = w := by
  unfold locB
  go_enter Tryz.func156, Tryz.ntmps156
  go_wp2
  all_goals go_ret
  all_goals exact ⟨ret_bool (by first | (simp; done) | (simp; omega)), rfl⟩

theorem isVal_any (n : Int) (w : World) :
    Calls Tryz.prog 154 #[.int .i64 n] w fun e w' => e = .returned (.bool (valB n)) ∧ w' = w := by
  unfold valB
  go_enter Tryz.func154, Tryz.ntmps154
  go_wp2
  all_goals go_ret
  all_goals exact ⟨ret_bool (by first | (simp; done) | (simp; omega)), rfl⟩

theorem isWriteMode_any (n : Int) (w : World) :
    Calls Tryz.prog 155 #[.int .i64 n] w fun e w' => e = .returned (.bool (wModeB n)) ∧ w' = w := by
  unfold wModeB
  go_enter Tryz.func155, Tryz.ntmps155
  go_wp2
  all_goals go_ret
  all_goals exact ⟨ret_bool (by first | (simp [*]; done) | (simp; omega)), rfl⟩

theorem isReadMode_any (n : Int) (w : World) :
    Calls Tryz.prog 157 #[.int .i64 n] w fun e w' => e = .returned (.bool (rModeB n)) ∧ w' = w := by
  unfold rModeB
  go_enter Tryz.func157, Tryz.ntmps157
  go_wp2
  all_goals go_ret
  all_goals exact ⟨ret_bool (by first | (simp [*]; done) | (simp; omega)), rfl⟩

theorem isFenceMode_any (n : Int) (w : World) :
    Calls Tryz.prog 158 #[.int .i64 n] w fun e w' => e = .returned (.bool (fModeB n)) ∧ w' = w := by
  unfold fModeB
  go_enter Tryz.func158, Tryz.ntmps158
  go_wp2
  all_goals go_ret
  all_goals exact ⟨ret_bool (by first | (simp [*]; done) | (simp; omega)), rfl⟩

def within (v lo hi : Int) : Bool := decide (lo ≤ v) && decide (v ≤ hi)

theorem within_any (v lo hi : Int) (w : World) :
    Calls Tryz.prog 127 #[.int .i64 v, .int .i64 lo, .int .i64 hi] w fun e w' => e = .returned (.bool (within v lo hi)) ∧ w' = w := by
  unfold within
  go_enter Tryz.func127, Tryz.ntmps127
  go_wp2
  all_goals go_ret
  all_goals exact ⟨ret_bool (by first | (simp; done) | (simp; omega)), rfl⟩

theorem placeOf_any (i j : Nat) (hi : i ≤ 4) (hj : j ≤ 12) (w : World) :
    Calls Tryz.prog 124 #[.int .i64 i, .int .i64 j] w fun e w' => e = .returned (.int .i64 (100 * i + j)) ∧ w' = w := by
  go_enter Tryz.func124, Tryz.ntmps124
  go_wp2
  go_ret
  exact ⟨ret_int (by simp), rfl⟩

theorem capped_any (n : Nat) (w : World) :
    Calls Tryz.prog 150 #[.int .i64 n] w fun e w' => e = .returned (.int .i64 (cap2 n : Nat)) ∧ w' = w := by
  unfold cap2
  by_cases h : 2000 < n
  · rw [if_pos h]
    go_enter Tryz.func150, Tryz.ntmps150
    go_wp2
    go_ret
    exact ⟨ret_int (by simp), rfl⟩
  · rw [if_neg h]
    go_enter Tryz.func150, Tryz.ntmps150
    go_wp2
    go_ret
    exact ⟨ret_int (by simp), rfl⟩

end Go.Proofs.YtomijmikkbhgmaaGreat

namespace Go.Proofs.YtomijmikkbhgmaaGreat
open Go.RowKit

/-- The cells of a new block of two, behind whatever is made later. -/
theorem own2 {w w3 : World} {a b : Value} {t : TypeId} (hb : Below (w.heap.size + 1) (w.alloc (.cells #[a, b] t)) w3) :
    w3.cell? ⟨w.heap.size, 0, none⟩ = some a ∧ w3.cell? ⟨w.heap.size, 1, none⟩ = some b ∧ w3.frozen? ⟨w.heap.size, 0, none⟩ = false ∧ w3.frozen? ⟨w.heap.size, 1, none⟩ = false ∧ w.heap.size < w3.heap.size := by
  have h1 := hb.cell (p := ⟨w.heap.size, 0, none⟩) (by simp)
  have h2 := hb.cell (p := ⟨w.heap.size, 1, none⟩) (by simp)
  have h3 := hb.frozen (p := ⟨w.heap.size, 0, none⟩) (by simp)
  have h4 := hb.frozen (p := ⟨w.heap.size, 1, none⟩) (by simp)
  have h5 := hb.size
  simp at h1 h2 h3 h4 h5
  exact ⟨h1, h2, h3, h4, by omega⟩

/-- A test by value: the threads' slice, Forall, the condition's slice. -/
structure TestAt (w : World) (v : Value) (T : List (List Ins)) (fa : Bool) (c : List Atm) (vt vc : Value) : Prop where
  hv : v = .agg #[vt, .bool fa, vc]
  ht : ThrAt w vt T
  hc : AtmAt w vc c

theorem TestAt.keep {w w' : World} {v : Value} {T : List (List Ins)} {fa : Bool} {c : List Atm} {vt vc : Value} (h : TestAt w v T fa c vt vc) (hb : Below w.heap.size w w') : TestAt w' v T fa c vt vc := ⟨h.hv, h.ht.keep hb, h.hc.keep hb⟩

theorem sizeB_no (T : List (List Ins)) (c : List Atm) (h : T.length < 1 ∨ 4 < T.length) : sizeB T c = false := by
  unfold sizeB; rcases h with h | h <;> simp <;> omega

theorem sizeB_noc (T : List (List Ins)) (c : List Atm) (h : 6 < c.length) : sizeB T c = false := by
  unfold sizeB; simp; omega

theorem sizeB_yes (T : List (List Ins)) (c : List Atm) (h1 : 1 ≤ T.length) (h2 : T.length ≤ 4) (h3 : c.length ≤ 6) : sizeB T c = lensB T := by
  unfold sizeB; simp [h1, h2, h3]

set_option maxHeartbeats 1000000 in
theorem sizes_any (T : List (List Ins)) (fa : Bool) (c : List Atm) (v vt vc : Value) (w : World) (h : TestAt w v T fa c vt vc) :
    Calls Tryz.prog 88 #[v] w fun e w' => e = .returned (.bool (sizeB T c)) ∧ Below w.heap.size w w' := by
  obtain ⟨hv, ht, ⟨hc0, ao', b', off', cap', hcv, _, _, _⟩⟩ := h
  obtain ⟨ht0, ao, b, off, cap, htv, hta, _, htc⟩ := ht.opened
  subst hv htv hcv
  by_cases hsz : T.length < 1 ∨ 4 < T.length
  · rw [sizeB_no T c hsz]
    rcases hsz with hsz | hsz
    all_goals
      go_enter Tryz.func88, Tryz.ntmps88
      go_wp2_with fail
      go_ret
      exact ⟨rfl, below_alloc _ _⟩
  · by_cases hcl : 6 < c.length
    · rw [sizeB_noc T c hcl]
      have h1 : 1 ≤ T.length := by omega
      have h2 : T.length ≤ 4 := by omega
      clear hsz
      go_enter Tryz.func88, Tryz.ntmps88
      go_wp2_with fail
      go_ret
      exact ⟨rfl, below_alloc _ _⟩
    · have h1 : 1 ≤ T.length := by omega
      have h2 : T.length ≤ 4 := by omega
      have h3 : c.length ≤ 6 := by omega
      rw [sizeB_yes T c h1 h2 h3]
      clear hsz hcl
      go_enter Tryz.func88, Tryz.ntmps88
      go_wp2_with fail
      go_loop [3] (fun i => ∃ k : Nat, k ≤ T.length ∧ i = .int .i64 k ∧ Hid (lensB T = lensB (T.drop k))) (fun i => T.length - (intOf i).toNat)
      case atStart => exact ⟨0, Nat.zero_le _, rfl, rfl⟩
      case round =>
        obtain ⟨k, hk, rfl, hn⟩ := hrel
        by_cases hlt : k < T.length
        · obtain ⟨l, hx⟩ := get_of_lt hlt
          obtain ⟨hbl, ao2, cap2, c0, hil⟩ := htc k l hx
          obtain rfl := hta (ne_nil hlt)
          have HN : Hid (lensB T = lensB (l :: T.drop (k + 1))) := by rw [← drop_cons hx]; exact hn
          have hl0 : l.length * 40 ≤ 140737488351232 := hil.1
          clear htc hx hn hta hil ht
          go_wp2_with fail
          · go_ret
            exact ⟨ret_bool (by rw [HN.out]; simp [lensB]; omega), below_alloc _ _⟩
          · go_round
            case measure => simp [intOf]; omega
            case rel => exact ⟨k + 1, by omega, by go_num, HN.out.trans (by simp [lensB]; omega)⟩
        · have HN : Hid (lensB T = lensB []) := by rw [← drop_nil hlt]; exact hn
          clear htc hn hta ht
          go_wp2_with fail
          go_ret
          exact ⟨ret_bool (by rw [HN.out]; rfl), below_alloc _ _⟩

def faultS (b : Bool) : Value := .agg #[.int .i64 (if b then 0 else 1), .int .i64 0]

set_option maxHeartbeats 1000000 in
theorem findSize_any (T : List (List Ins)) (fa : Bool) (c : List Atm) (v vt vc : Value) (w : World) (h : TestAt w v T fa c vt vc) :
    Calls Tryz.prog 80 #[v] w fun e w' => e = .returned (faultS (sizeB T c)) ∧ Below w.heap.size w w' := by
  obtain ⟨hv, ht, ⟨hc0, ao', b', off', cap', hcv, _, _, _⟩⟩ := h
  obtain ⟨ht0, ao, b, off, cap, htv, hta, _, htc⟩ := ht.opened
  subst hv htv hcv
  by_cases hsz : T.length < 1 ∨ 4 < T.length
  · rw [sizeB_no T c hsz]
    rcases hsz with hsz | hsz
    all_goals
      go_enter Tryz.func80, Tryz.ntmps80
      go_wp2_with fail
      exact bodyPost_ret (v := .agg #[.int .i64 1, .int .i64 0]) (by simp [results, Tryz.results80, go_sem]) rfl ⟨rfl, by repeat (first | exact Below.refl _ _ | assumption | refine Below.alloc ?_ (by simp; try omega) _)⟩
  · have h1 : 1 ≤ T.length := by omega
    have h2 : T.length ≤ 4 := by omega
    clear hsz
    go_enter Tryz.func80, Tryz.ntmps80
    go_wp2_with fail
    go_loop [21] (fun i => ∃ k : Nat, k ≤ T.length ∧ i = .int .i64 k ∧ Hid (lensB T = lensB (T.drop k))) (fun i => T.length - (intOf i).toNat)
    case atStart => exact ⟨0, Nat.zero_le _, rfl, rfl⟩
    case round =>
      obtain ⟨k, hk, rfl, hn⟩ := hrel
      by_cases hlt : k < T.length
      · obtain ⟨l, hx⟩ := get_of_lt hlt
        obtain ⟨hbl, ao2, cap2, c0, hil⟩ := htc k l hx
        obtain rfl := hta (ne_nil hlt)
        have HN : Hid (lensB T = lensB (l :: T.drop (k + 1))) := by rw [← drop_cons hx]; exact hn
        have hl0 : l.length * 40 ≤ 140737488351232 := hil.1
        have hbl1 : b < w.heap.size + 1 := by omega
        have hbl2 : b < w.heap.size + 1 + 1 := by omega
        clear htc hx hn hta hil ht
        by_cases hl12 : 12 < l.length
        · have HS : Hid (sizeB T c = false) := by
            have e : lensB T = false := by rw [HN.out, lensB, decide_eq_false (by omega)]; rfl
            unfold Hid sizeB; rw [e]; simp
          go_wp2_with fail
          exact bodyPost_ret (v := .agg #[.int .i64 1, .int .i64 0]) (by simp [results, Tryz.results80, go_sem]) rfl ⟨by rw [HS.out]; rfl, by repeat (first | exact Below.refl _ _ | assumption | refine Below.alloc ?_ (by simp; try omega) _)⟩
        · go_wp2_with fail
          go_round
          case measure => simp [intOf]; omega
          case rel => exact ⟨k + 1, by omega, by go_num, HN.out.trans (by simp [lensB]; omega)⟩
      · have HN : Hid (lensB T = true) := by rw [hn, drop_nil hlt]; rfl
        clear htc hn hta ht
        by_cases hcl : 6 < c.length
        · have HS : Hid (sizeB T c = false) := sizeB_noc T c hcl
          go_wp2_with fail
          exact bodyPost_ret (v := .agg #[.int .i64 1, .int .i64 0]) (by simp [results, Tryz.results80, go_sem]) rfl ⟨by rw [HS.out]; rfl, by repeat (first | exact Below.refl _ _ | assumption | refine Below.alloc ?_ (by simp; try omega) _)⟩
        · have HS : Hid (sizeB T c = true) := by rw [sizeB_yes T c h1 h2 (by omega)]; exact HN
          go_wp2_with fail
          exact bodyPost_ret (v := .agg #[.int .i64 0, .int .i64 0]) (by simp [results, Tryz.results80, go_sem]) rfl ⟨by rw [HS.out]; rfl, by repeat (first | exact Below.refl _ _ | assumption | refine Below.alloc ?_ (by simp; try omega) _)⟩

end Go.Proofs.YtomijmikkbhgmaaGreat

namespace Go.Proofs.YtomijmikkbhgmaaGreat
open Go.ChangeShapes Go.WideShapes Go.ChangeAt Go.RowKit Go.Deep

theorem Tryz.cellsTest : Tryz.prog.cellsOf 25 = 3 := by kernel_rfl
theorem Tryz.cellsInstrs : Tryz.prog.cellsOf 46 = 1 := by kernel_rfl
theorem Tryz.cellsAtom : Tryz.prog.cellsOf 104 = 3 := by kernel_rfl
theorem Tryz.cellsInstr : Tryz.prog.cellsOf 48 = 5 := by kernel_rfl
theorem Tryz.cellsInt : Tryz.prog.cellsOf 3 = 1 := by kernel_rfl
section
variable {H : Type} {enc : TypeId × Value → H} {w : World}

theorem cells_get {base : Nat} {a : Addr} {n : Nat} {cs : List Value} (h : w.cells? base a n = some cs) : cs.length = n ∧ ∀ i v, cs[i]? = some v → w.cell? (a.add i) = some v := by
  unfold World.cells? at h
  split at h
  · have hl := mapM_some_length h
    simp at hl
    refine ⟨hl, fun i v hv => ?_⟩
    have hi : i < n := by have := (List.getElem?_eq_some_iff.1 hv).1; omega
    have := mapM_some_get h i i (by simp [hi])
    rw [this]; exact hv
  · simp at h

set_option maxRecDepth 100000 in
theorem open_instr {fuel : Nat} {cs : List Value} {x : DataW H × List MemPlace} (h : DataW.trod enc Tryz.prog w 0 (fun _ => true) true fuel 48 cs = some x) :
    ∃ i : Ins, cs = [.int .i64 i.op, .int .i64 i.loc, .int .i64 i.reg, .int .i64 i.val, .int .i64 i.mode] := by
  obtain ⟨xs, n, _, _, hl, hx, hf⟩ := DataW.trod_struct Tryz.underlying48 h
  rw [Tryz.cellsInstr] at hl
  match cs, hl with
  | [v0, v1, v2, v3, v4], _ =>
    have hxs : xs.length = 5 := hx
    match xs, hxs with
    | [x0, x1, x2, x3, x4], _ =>
      have h0 : DataW.trod enc Tryz.prog w 0 (fun _ => true) true n 3 (([v0, v1, v2, v3, v4].drop 0).take (Tryz.prog.cellsOf 3)) = some x0 := hf 0 _ rfl
      have h1 : DataW.trod enc Tryz.prog w 0 (fun _ => true) true n 3 (([v0, v1, v2, v3, v4].drop 1).take (Tryz.prog.cellsOf 3)) = some x1 := hf 1 _ rfl
      have h2 : DataW.trod enc Tryz.prog w 0 (fun _ => true) true n 3 (([v0, v1, v2, v3, v4].drop 2).take (Tryz.prog.cellsOf 3)) = some x2 := hf 2 _ rfl
      have h3 : DataW.trod enc Tryz.prog w 0 (fun _ => true) true n 3 (([v0, v1, v2, v3, v4].drop 3).take (Tryz.prog.cellsOf 3)) = some x3 := hf 3 _ rfl
      have h4 : DataW.trod enc Tryz.prog w 0 (fun _ => true) true n 3 (([v0, v1, v2, v3, v4].drop 4).take (Tryz.prog.cellsOf 3)) = some x4 := hf 4 _ rfl
      rw [Tryz.cellsInt] at h0 h1 h2 h3 h4
      obtain ⟨a0, e0, _, _⟩ := DataW.trod_int Tryz.underlying3 h0
      obtain ⟨a1, e1, _, _⟩ := DataW.trod_int Tryz.underlying3 h1
      obtain ⟨a2, e2, _, _⟩ := DataW.trod_int Tryz.underlying3 h2
      obtain ⟨a3, e3, _, _⟩ := DataW.trod_int Tryz.underlying3 h3
      obtain ⟨a4, e4, _, _⟩ := DataW.trod_int Tryz.underlying3 h4
      simp at e0 e1 e2 e3 e4
      subst e0 e1 e2 e3 e4
      exact ⟨⟨a0, a1, a2, a3, a4⟩, rfl⟩

set_option maxRecDepth 100000 in
theorem open_atm {fuel : Nat} {cs : List Value} {x : DataW H × List MemPlace} (h : DataW.trod enc Tryz.prog w 0 (fun _ => true) true fuel 104 cs = some x) :
    ∃ i : Atm, cs = [.int .i64 i.thread, .int .i64 i.at', .int .i64 i.val] := by
  obtain ⟨xs, n, _, _, hl, hx, hf⟩ := DataW.trod_struct Tryz.underlying104 h
  rw [Tryz.cellsAtom] at hl
  match cs, hl with
  | [v0, v1, v2], _ =>
    have hxs : xs.length = 3 := hx
    match xs, hxs with
    | [x0, x1, x2], _ =>
      have h0 : DataW.trod enc Tryz.prog w 0 (fun _ => true) true n 3 (([v0, v1, v2].drop 0).take (Tryz.prog.cellsOf 3)) = some x0 := hf 0 _ rfl
      have h1 : DataW.trod enc Tryz.prog w 0 (fun _ => true) true n 3 (([v0, v1, v2].drop 1).take (Tryz.prog.cellsOf 3)) = some x1 := hf 1 _ rfl
      have h2 : DataW.trod enc Tryz.prog w 0 (fun _ => true) true n 3 (([v0, v1, v2].drop 2).take (Tryz.prog.cellsOf 3)) = some x2 := hf 2 _ rfl
      rw [Tryz.cellsInt] at h0 h1 h2
      obtain ⟨a0, e0, _, _⟩ := DataW.trod_int Tryz.underlying3 h0
      obtain ⟨a1, e1, _, _⟩ := DataW.trod_int Tryz.underlying3 h1
      obtain ⟨a2, e2, _, _⟩ := DataW.trod_int Tryz.underlying3 h2
      simp at e0 e1 e2
      subst e0 e1 e2
      exact ⟨⟨a0, a1, a2⟩, rfl⟩

/-- A slice of elements of s cells, each of which can be told by 'C'. -/
theorem open_sl {α : Type} (dflt : α) {C : World → Nat → Nat → α → Prop} {t e : TypeId} {s : Nat} (hs0 : 0 < s) (ht : Tryz.prog.underlying t = some (.slice e)) (hs : Tryz.prog.cellsOf e = s)
    (ok : DataW H → Prop)
    (hel : ∀ fuel cs x, DataW.trod enc Tryz.prog w 0 (fun _ => true) true fuel e cs = some x → ok x.1 → ∃ i : α, ∀ b off, (∀ j u, cs[j]? = some u → w.cell? ⟨b, off + j, none⟩ = some u) → C w b off i)
    {fuel : Nat} {v : Value} {x : DataW H × List MemPlace} (h : DataW.trod enc Tryz.prog w 0 (fun _ => true) true fuel t [v] = some x)
    (hok : ∀ el sp, x.1 = .slice el sp → ∀ d ∈ el, ok d) :
    ∃ (l : List α) (ao : Option Addr) (b off cap : Nat), SlAt w s C v l ao b off cap ∧ (x.1 = .nil ∧ l = [] ∨ ∃ el sp, x.1 = .slice el sp ∧ el.length = l.length) := by
  rcases open_slice ht h with ⟨hcs, hx⟩ | ⟨a, len, cap, m, n, D, Pl, hcs, _, hlc, _, hm, hx, hD⟩
  · simp at hcs
    subst hcs
    exact ⟨[], none, 0, 0, 0, ⟨rfl, fun h => absurd rfl h, fun _ => ⟨rfl, rfl⟩, fun k x h => by simp at h⟩, .inl ⟨by rw [hx], rfl⟩⟩
  · simp at hcs hm
    subst hcs hm
    rw [hs] at hD
    have hx1 : x.1 = .slice ((List.range len).map D) ((List.range (m - len)).map fun j => D (len + j)) := by rw [hx]
    have hch : ∀ i, i < len → ∃ y : α, ∀ (_ : a.spot = none), C w a.block (a.off + i * s) y := by
      intro i hi
      obtain ⟨cs', h1, h2⟩ := hD i (by omega)
      obtain ⟨y, hy⟩ := hel _ _ _ h2 (hok _ _ hx1 (D i) (List.mem_map.2 ⟨i, by simpa using hi, rfl⟩))
      refine ⟨y, fun hsp => hy _ _ fun j u hj => ?_⟩
      have := (cells_get h1).2 j u hj
      rw [add_add] at this
      obtain ⟨ab, aoff, asp⟩ := a
      simp at hsp
      subst hsp
      rw [Addr.add_lit] at this
      rw [Nat.add_assoc]; exact this
    have hspot : 0 < len → a.spot = none := by
      intro hl
      obtain ⟨cs', h1, _⟩ := hD 0 (by omega)
      obtain ⟨hcl, hcg⟩ := cells_get h1
      have := hcg 0 (cs'[0]'(by omega)) (by simp)
      have hsp := World.cell?_spot this
      obtain ⟨ab, aoff, asp⟩ := a
      simpa [Addr.add] using hsp
    obtain ⟨f, hf⟩ := @choose_lt α ⟨dflt⟩ _ _ hch
    refine ⟨(List.range len).map f, some a, a.block, a.off, m, ⟨by simp, ?_, fun h => by simp at h, ?_⟩, .inr ⟨_, _, hx1, by simp⟩⟩
    · intro hne
      have hl : 0 < len := by
        rcases Nat.eq_zero_or_pos len with h0 | h0
        · subst h0; simp at hne
        · exact h0
      have hsp := hspot hl
      obtain ⟨ab, aoff, asp⟩ := a
      simp at hsp
      simp [hsp]
    · intro k y hk
      have hkl : k < len := by have := (List.getElem?_eq_some_iff.1 hk).1; simpa using this
      have hy : f k = y := by simpa [hkl] using hk
      rw [← hy]
      exact hf k hkl (hspot (by omega))

theorem weights_all {P : Program} {e : TypeId} {l : List (DataW H)} {d : DataW H} (hd : d ∈ l) : ∀ n ∈ d.weights P e, n ∈ DataW.weightsAll P e l := by
  intro n hn
  induction l with
  | nil => simp at hd
  | cons a l ih =>
    simp only [DataW.weightsAll, List.mem_append]
    rcases List.mem_cons.1 hd with rfl | h
    · exact .inl hn
    · exact .inr (ih h)

theorem weights_slice {P : Program} {t e : TypeId} (ht : P.underlying t = some (.slice e)) {el sp : List (DataW H)} (h : ∀ n ∈ (DataW.slice el sp).weights P t, n ≤ reachBytes) :
    el.length * P.bytesOf e ≤ reachBytes ∧ ∀ d ∈ el, ∀ n ∈ d.weights P e, n ≤ reachBytes := by
  simp only [DataW.weights, ht, List.mem_cons, List.mem_append] at h
  refine ⟨?_, fun d hd n hn => h n (.inr (.inl (weights_all hd n hn)))⟩
  have := h _ (.inl rfl)
  exact Nat.le_trans (Nat.mul_le_mul_right _ (by omega)) this

end

end Go.Proofs.YtomijmikkbhgmaaGreat

namespace Go.Proofs.YtomijmikkbhgmaaGreat

theorem Tryz.own : ownKnob Tryz.prog.godebug = none := by kernel_rfl
theorem Tryz.laidOut : laidOutB Tryz.prog = true := by kernel_rfl

end Go.Proofs.YtomijmikkbhgmaaGreat

namespace Go.Proofs.YtomijmikkbhgmaaGreat

def facL (E : List Evt) (j : Nat) : Nat := match j with
  | 0 => fac (wrs E 0 0).length * (fac (wrs E 0 1).length * fac (wrs E 0 2).length)
  | 1 => fac (wrs E 0 1).length * fac (wrs E 0 2).length
  | 2 => fac (wrs E 0 2).length
  | _ => 1

theorem facL_pos (E : List Evt) (j : Nat) : 1 ≤ facL E j := by
  have a := fac_pos (wrs E 0 0).length; have b := fac_pos (wrs E 0 1).length; have c := fac_pos (wrs E 0 2).length
  have bc := Nat.mul_le_mul b c
  have abc := Nat.mul_le_mul a bc
  unfold facL; split <;> omega

theorem facL_step (E : List Evt) (j : Nat) (h : j < 3) : facL E j = fac (wrs E 0 (j : Int)).length * facL E (j + 1) := by
  match j, h with
  | 0, _ => rfl
  | 1, _ => rfl
  | 2, _ => show fac _ = fac _ * 1; rw [Nat.mul_one]; rfl

theorem facL_three (E : List Evt) : facL E 3 = 1 := rfl
theorem sizeN_eq (E : List Evt) : sizeN E = prodR E E * facL E 0 := rfl

def prodUp : Nat → Nat → Nat
  | _, 0 => 1
  | k, c + 1 => k * prodUp (k + 1) c

theorem prodUp_pos (k c : Nat) (h : 1 ≤ k) : 1 ≤ prodUp k c := by
  induction c generalizing k with
  | zero => exact Nat.le_refl 1
  | succ c ih => have := Nat.mul_le_mul h (ih (k + 1) (by omega)); unfold prodUp; omega

theorem prodUp_fac (k c : Nat) : prodUp (k + 1) c * fac k = fac (k + c) := by
  induction c generalizing k with
  | zero => simp [prodUp]
  | succ c ih =>
    have := ih (k + 1)
    rw [show k + (c + 1) = k + 1 + c by omega, ← this, show fac (k + 1) = (k + 1) * fac k from rfl, show prodUp (k + 1) (c + 1) = (k + 1) * prodUp (k + 1 + 1) c from rfl]
    rw [Nat.mul_comm (k + 1) (prodUp (k + 1 + 1) c), Nat.mul_assoc]

theorem prodUp_two (m : Nat) : prodUp 2 (m + 1 - 2) = fac m := by
  cases m with
  | zero => rfl
  | succ m =>
    have := prodUp_fac 1 m
    rw [show m + 1 + 1 - 2 = m by omega]
    rw [show fac 1 = 1 from rfl, Nat.mul_one, Nat.add_comm 1 m] at this
    exact this

theorem prodUp_step {k m : Nat} (h : k ≤ m) : prodUp k (m + 1 - k) = k * prodUp (k + 1) (m + 1 - (k + 1)) := by
  rw [show m + 1 - k = (m + 1 - (k + 1)) + 1 by omega]; rfl

theorem prodUp_done {k m : Nat} (h : ¬ k ≤ m) : prodUp k (m + 1 - k) = 1 := by
  rw [show m + 1 - k = 0 by omega]; rfl

theorem cap2_big {n f : Nat} (h : 2000 < n) (hf : 1 ≤ f) : cap2 (n * f) = 2001 := by
  have := Nat.mul_le_mul_left n hf
  unfold cap2; rw [if_pos (by omega)]

theorem prodR_read {E : List Evt} {x : Evt} (h : (x.kind == 0) = true) (R : List Evt) : prodR E (x :: R) = (1 + (wrs E 0 x.loc).length) * prodR E R := by rw [prodR, if_pos h]
theorem prodR_not {E : List Evt} {x : Evt} (h : (x.kind == 0) = false) (R : List Evt) : prodR E (x :: R) = prodR E R := by rw [prodR, if_neg (by simp [h]), Nat.one_mul]

theorem mul_bd {n L a b : Nat} (hn : n ≤ a) (hL : L ≤ b) : (0 : Int) ≤ (n : Int) * (L : Int) ∧ (n : Int) * (L : Int) ≤ ((a * b : Nat) : Int) := by
  have h := Nat.mul_le_mul hn hL
  refine ⟨Int.mul_nonneg (by omega) (by omega), ?_⟩
  have : (n : Int) * (L : Int) = ((n * L : Nat) : Int) := by simp
  omega

theorem mul_bd1 {n L a b : Nat} (hn : n ≤ a) (hL : L ≤ b) : (0 : Int) ≤ (n : Int) * (1 + (L : Int)) ∧ (n : Int) * (1 + (L : Int)) ≤ ((a * (1 + b) : Nat) : Int) := by
  have h := @mul_bd n (1 + L) a (1 + b) hn (by omega)
  rw [show ((1 + L : Nat) : Int) = 1 + (L : Int) by simp] at h
  exact h

end Go.Proofs.YtomijmikkbhgmaaGreat

namespace Go.Proofs.YtomijmikkbhgmaaGreat

/-- What each read may read from, read by read. -/
def rdo (E : List Evt) : List Evt → List (List Int)
  | [] => []
  | x :: R => if x.kind == 0 then (-1 :: wrs E 0 x.loc) :: rdo E R else rdo E R

def plen : List (List Int) → Nat
  | [] => 1
  | o :: os => o.length * plen os

theorem plen_rdo (E R : List Evt) : plen (rdo E R) = prodR E R := by
  induction R with
  | nil => rfl
  | cons x R ih =>
    unfold rdo prodR
    cases x.kind == 0
    · simp [ih]
    · simp [plen, ih, Nat.add_comm]

/-- All ways to choose one of each list, the first list slowest. -/
def allF : List (List Int) → List (List Int)
  | [] => [[]]
  | o :: os => o.flatMap fun a => (allF os).map fun r => a :: r

theorem allF_len (os : List (List Int)) : (allF os).length = plen os := by
  induction os with
  | nil => rfl
  | cons o os ih =>
    unfold allF plen
    rw [← ih]
    induction o with
    | nil => simp
    | cons a o ih2 => rw [List.flatMap_cons, List.length_append, ih2, List.length_map, List.length_cons, Nat.add_mul]; omega

/-- The choices that a number stands for. -/
def chF (n : Nat) : List (List Int) → Nat → List Int
  | [], _ => []
  | o :: os, w => o.getD (n / (w / o.length) % o.length) 0 :: chF n os (w / o.length)

theorem plen_pos {os : List (List Int)} (h : ∀ o ∈ os, 1 ≤ o.length) : 1 ≤ plen os := by
  induction os with
  | nil => exact Nat.le_refl 1
  | cons o os ih =>
    have h1 := h o (List.mem_cons_self ..)
    have h2 := ih (fun x hx => h x (List.mem_cons_of_mem _ hx))
    have := Nat.mul_le_mul h1 h2
    unfold plen; omega

/-- An entry of lists of s entries each, laid one behind the other. -/
theorem flat_at {α β : Type} (f : α → List β) (s : Nat) (l : List α) (hf : ∀ x ∈ l, (f x).length = s) (k j : Nat) (x : α) (hx : l[k]? = some x) (hj : j < s) : (l.flatMap f)[k * s + j]? = (f x)[j]? := by
  induction l generalizing k with
  | nil => simp at hx
  | cons a l ih =>
    have ha := hf a (List.mem_cons_self ..)
    cases k with
    | zero => simp at hx; subst hx; rw [List.flatMap_cons, List.getElem?_append_left (by rw [ha]; omega)]; simp
    | succ k =>
      rw [List.flatMap_cons, List.getElem?_append_right (by rw [ha, Nat.add_mul]; omega), ha]
      rw [show (k + 1) * s + j - s = k * s + j by rw [Nat.add_mul]; omega]
      exact ih (fun x hx => hf x (List.mem_cons_of_mem _ hx)) k (by simpa using hx)

theorem mod_split (a m P : Nat) : a % (m * P) = (a / P % m) * P + a % P := by
  rw [Nat.mul_comm m P, Nat.mod_mul]
  rw [Nat.mul_comm P (a / P % m)]
  omega

theorem chF_at (n : Nat) (os : List (List Int)) (h : ∀ o ∈ os, 1 ≤ o.length) (R : Nat) (_hR : 1 ≤ R) : (allF os)[n / R % plen os]? = some (chF n os (plen os * R)) := by
  induction os with
  | nil => simp [allF, plen, chF, Nat.mod_one]
  | cons o os ih =>
    have h1 := h o (List.mem_cons_self ..)
    have hos := fun x hx => h x (List.mem_cons_of_mem o hx)
    have hP := plen_pos hos
    have hw : o.length * plen os * R / o.length = plen os * R := by rw [Nat.mul_assoc]; exact Nat.mul_div_cancel_left _ h1
    have hd : n / R / plen os = n / (plen os * R) := by rw [Nat.div_div_eq_div_mul, Nat.mul_comm]
    unfold plen chF
    rw [hw, mod_split, hd]
    have hlt : n / (plen os * R) % o.length < o.length := Nat.mod_lt _ h1
    unfold allF
    rw [flat_at _ (plen os) o (fun x _ => by rw [List.length_map, allF_len]) _ _ (o.getD (n / (plen os * R) % o.length) 0) (by rw [List.getD, List.getElem?_eq_getElem hlt]; rfl) (Nat.mod_lt _ hP)]
    rw [List.getElem?_map, ih hos]
    rfl

/-! orders of a list -/
def ordN : Nat → List Int → List (List Int)
  | 0, _ => [[]]
  | m + 1, l => (List.range l.length).flatMap fun i => (ordN m (l.eraseIdx i)).map fun r => l.getD i 0 :: r

theorem ordN_len (m : Nat) (l : List Int) (h : l.length = m) : (ordN m l).length = fac m := by
  induction m generalizing l with
  | zero => rfl
  | succ m ih =>
    have key : ∀ (k : Nat), k ≤ l.length → ((List.range k).flatMap fun i => (ordN m (l.eraseIdx i)).map fun r => l.getD i 0 :: r).length = k * fac m := by
      intro k hk
      induction k with
      | zero => simp
      | succ k ihk =>
        rw [List.range_succ, List.flatMap_append, List.length_append, ihk (by omega)]
        simp only [List.flatMap_cons, List.flatMap_nil, List.append_nil, List.length_map]
        rw [ih _ (by rw [List.length_eraseIdx, if_pos (by omega)]; omega), Nat.add_mul]; omega
    unfold ordN
    rw [key l.length (Nat.le_refl _), h]
    rfl

def chO (n : Nat) : Nat → List Int → Nat → List Int
  | 0, _, _ => []
  | m + 1, l, w => l.getD (n / (w / l.length) % l.length) 0 :: chO n m (l.eraseIdx (n / (w / l.length) % l.length)) (w / l.length)

theorem chO_at (n m : Nat) (l : List Int) (h : l.length = m) (R : Nat) (_hR : 1 ≤ R) : (ordN m l)[n / R % fac m]? = some (chO n m l (fac m * R)) := by
  induction m generalizing l with
  | zero => simp [ordN, fac, chO, Nat.mod_one]
  | succ m ih =>
    have h1 : 1 ≤ l.length := by omega
    have hw : (m + 1) * fac m * R / (m + 1) = fac m * R := by rw [Nat.mul_assoc]; exact Nat.mul_div_cancel_left _ (by omega)
    have hd : n / R / fac m = n / (fac m * R) := by rw [Nat.div_div_eq_div_mul, Nat.mul_comm]
    unfold fac chO
    rw [h, hw, mod_split, hd]
    have hlt : n / (fac m * R) % (m + 1) < m + 1 := Nat.mod_lt _ (by omega)
    have he : (l.eraseIdx (n / (fac m * R) % (m + 1))).length = m := by rw [List.length_eraseIdx, if_pos (by omega)]; omega
    unfold ordN
    rw [flat_at _ (fac m) (List.range l.length) (fun i hi => by
        have hi' : i < l.length := by simpa using hi
        rw [List.length_map, ordN_len _ _ (by rw [List.length_eraseIdx, if_pos hi']; omega)]) _ _ (n / (fac m * R) % (m + 1)) (by simp [h, hlt]) (Nat.mod_lt _ (fac_pos m))]
    rw [List.getElem?_map, ih _ he]
    rfl

/-! whole candidates -/
structure Exe where
  from' : List Int
  order : List (List Int)

def ords (E : List Evt) (j : Int) : List (List Int) := ordN (wrs E 0 j).length (wrs E 0 j)

def exs (E : List Evt) : List Exe :=
  (allF (rdo E E)).flatMap fun f => (ords E 0).flatMap fun a => (ords E 1).flatMap fun b => (ords E 2).map fun c => ⟨f, [a, b, c]⟩

/-- The candidate with a number, as the digits say. -/
def exN (E : List Evt) (n : Nat) : Exe :=
  ⟨chF n (rdo E E) (sizeN E), [chO n (wrs E 0 0).length (wrs E 0 0) (facL E 0), chO n (wrs E 0 1).length (wrs E 0 1) (facL E 1), chO n (wrs E 0 2).length (wrs E 0 2) (facL E 2)]⟩

theorem ords_len (E : List Evt) (j : Int) : (ords E j).length = fac (wrs E 0 j).length := ordN_len _ _ rfl

theorem flat_length {α β : Type} (f : α → List β) (s : Nat) (l : List α) (hf : ∀ x ∈ l, (f x).length = s) : (l.flatMap f).length = l.length * s := by
  induction l with
  | nil => simp
  | cons a l ih => rw [List.flatMap_cons, List.length_append, ih (fun x hx => hf x (List.mem_cons_of_mem _ hx)), hf a (List.mem_cons_self ..), List.length_cons, Nat.add_mul]; omega

theorem exs3_len (E : List Evt) (f : List Int) (a b : List Int) : ((ords E 2).map fun c => (⟨f, [a, b, c]⟩ : Exe)).length = facL E 2 := by rw [List.length_map, ords_len]; rfl
theorem exs2_len (E : List Evt) (f : List Int) (a : List Int) : ((ords E 1).flatMap fun b => (ords E 2).map fun c => (⟨f, [a, b, c]⟩ : Exe)).length = facL E 1 := by
  rw [flat_length _ (facL E 2) _ (fun b _ => exs3_len E f a b), ords_len]; rfl
theorem exs1_len (E : List Evt) (f : List Int) : ((ords E 0).flatMap fun a => (ords E 1).flatMap fun b => (ords E 2).map fun c => (⟨f, [a, b, c]⟩ : Exe)).length = facL E 0 := by
  rw [flat_length _ (facL E 1) _ (fun a _ => exs2_len E f a), ords_len]; rfl
theorem exs_len (E : List Evt) : (exs E).length = sizeN E := by
  unfold exs
  rw [flat_length _ (facL E 0) _ (fun f _ => exs1_len E f), allF_len, plen_rdo]; rfl

theorem rdo_pos (E R : List Evt) : ∀ o ∈ rdo E R, 1 ≤ o.length := by
  induction R with
  | nil => simp [rdo]
  | cons x R ih =>
    unfold rdo
    split
    · intro o ho
      rcases List.mem_cons.1 ho with rfl | h
      · simp
      · exact ih o h
    · exact ih

theorem exs_at (E : List Evt) (n : Nat) (hn : n < sizeN E) : (exs E)[n]? = some (exN E n) := by
  have p0 := facL_pos E 0; have p1 := facL_pos E 1; have p2 := facL_pos E 2
  have hF : (allF (rdo E E))[n / facL E 0]? = some (chF n (rdo E E) (sizeN E)) := by
    have := chF_at n (rdo E E) (rdo_pos E E) (facL E 0) p0
    rw [plen_rdo, ← sizeN_eq] at this
    rw [Nat.mod_eq_of_lt] at this
    · exact this
    · exact (Nat.div_lt_iff_lt_mul p0).2 (by rw [← sizeN_eq]; exact hn)
  have hA : (ords E 0)[n / facL E 1 % fac (wrs E 0 0).length]? = some (chO n (wrs E 0 0).length (wrs E 0 0) (facL E 0)) := chO_at n _ _ rfl (facL E 1) p1
  have hB : (ords E 1)[n / facL E 2 % fac (wrs E 0 1).length]? = some (chO n (wrs E 0 1).length (wrs E 0 1) (facL E 1)) := chO_at n _ _ rfl (facL E 2) p2
  have hC : (ords E 2)[n / 1 % fac (wrs E 0 2).length]? = some (chO n (wrs E 0 2).length (wrs E 0 2) (facL E 2)) := by
    have := chO_at n (wrs E 0 2).length (wrs E 0 2) rfl 1 (Nat.le_refl 1)
    rw [Nat.mul_one] at this
    exact this
  have s0 : facL E 0 = fac (wrs E 0 0).length * facL E 1 := rfl
  have s1 : facL E 1 = fac (wrs E 0 1).length * facL E 2 := rfl
  have s2 : facL E 2 = fac (wrs E 0 2).length := rfl
  have e0 : n = n / facL E 0 * facL E 0 + n % facL E 0 := by rw [Nat.mul_comm]; exact (Nat.div_add_mod n _).symm
  have e1 : n % facL E 0 = (n / facL E 1 % fac (wrs E 0 0).length) * facL E 1 + n % facL E 1 := by rw [s0]; exact mod_split _ _ _
  have e2 : n % facL E 1 = (n / facL E 2 % fac (wrs E 0 1).length) * facL E 2 + n % facL E 2 := by rw [s1]; exact mod_split _ _ _
  have e3 : n % facL E 2 = n / 1 % fac (wrs E 0 2).length := by rw [s2, Nat.div_one]
  generalize hy : exN E n = y
  unfold exs
  rw [e0, flat_at _ (facL E 0) _ (fun f _ => exs1_len E f) _ _ _ hF (Nat.mod_lt _ p0)]
  rw [e1, flat_at _ (facL E 1) _ (fun a _ => exs2_len E _ a) _ _ _ hA (Nat.mod_lt _ p1)]
  rw [e2, flat_at _ (facL E 2) _ (fun b _ => exs3_len E _ _ b) _ _ _ hB (Nat.mod_lt _ p2)]
  rw [List.getElem?_map, e3, hC, ← hy]
  rfl

/-- The document's own way to lay out the first part: one read more at the right. -/
theorem allF_step (acc : List (List Int)) (o : List Int) (os : List (List Int)) :
    (acc.flatMap fun a => (allF (o :: os)).map fun r => a ++ r) = ((acc.flatMap fun a => o.map fun x => a ++ [x]).flatMap fun b => (allF os).map fun r => b ++ r) := by
  rw [List.flatMap_assoc]
  congr 1
  funext a
  rw [show allF (o :: os) = o.flatMap (fun x => (allF os).map fun r => x :: r) from rfl, List.map_flatMap, List.flatMap_map]
  congr 1
  funext x
  rw [List.map_map]
  congr 1
  funext r
  simp

theorem allF_done (acc : List (List Int)) : (acc.flatMap fun a => (allF []).map fun r => a ++ r) = acc := by
  unfold allF
  induction acc with
  | nil => rfl
  | cons a acc ih => rw [List.flatMap_cons, ih]; simp

end Go.Proofs.YtomijmikkbhgmaaGreat

namespace Go.Proofs.YtomijmikkbhgmaaGreat

/-! writes of a location -/
theorem wrs_mem {E : List Evt} {k : Nat} {loc w : Int} (h : w ∈ wrs E k loc) : ∃ i x, E[i]? = some x ∧ w = ((k + i : Nat) : Int) ∧ x.kind = 1 ∧ x.loc = loc := by
  induction E generalizing k with
  | nil => simp [wrs] at h
  | cons y E ih =>
    have key : w ∈ wrs E (k + 1) loc → ∃ i x, (y :: E)[i]? = some x ∧ w = ((k + i : Nat) : Int) ∧ x.kind = 1 ∧ x.loc = loc := by
      intro hw
      obtain ⟨i, x, h1, h2, h3⟩ := ih hw
      exact ⟨i + 1, x, by simpa using h1, by rw [h2]; congr 1; omega, h3⟩
    unfold wrs at h
    split at h
    · rename_i hc
      rcases List.mem_cons.1 h with rfl | h
      · simp only [Bool.and_eq_true, beq_iff_eq] at hc
        exact ⟨0, y, rfl, rfl, hc.1, hc.2⟩
      · exact key h
    · exact key h

theorem wrs_sorted (E : List Evt) (k : Nat) (loc : Int) : (wrs E k loc).Pairwise (· < ·) := by
  induction E generalizing k with
  | nil => simp [wrs]
  | cons y E ih =>
    unfold wrs
    split
    · refine List.pairwise_cons.2 ⟨fun w hw => ?_, ih (k + 1)⟩
      obtain ⟨i, x, _, h2, _⟩ := wrs_mem hw
      omega
    · exact ih (k + 1)

/-- How often an event stands in the list of a location's writes. -/
theorem wrs_count {E : List Evt} {k i : Nat} {loc : Int} {x : Evt} (h : E[i]? = some x) : (wrs E k loc).count ((k + i : Nat) : Int) = if x.kind == 1 && x.loc == loc then 1 else 0 := by
  induction E generalizing k i with
  | nil => simp at h
  | cons y E ih =>
    cases i with
    | zero =>
      simp at h
      subst h
      have h0 : (wrs E (k + 1) loc).count ((k + 0 : Nat) : Int) = 0 := by
        refine List.count_eq_zero.2 fun hm => ?_
        obtain ⟨j, z, _, h2, _⟩ := wrs_mem hm
        omega
      unfold wrs
      split
      · rw [List.count_cons, h0]; simp
      · exact h0
    | succ i =>
      have h1 := ih (k := k + 1) (i := i) (by simpa using h)
      rw [show k + 1 + i = k + (i + 1) by omega] at h1
      unfold wrs
      split
      · rw [List.count_cons, h1, if_neg (show ¬ ((k : Int) == ((k + (i + 1) : Nat) : Int)) = true by simp; omega), Nat.add_zero]
      · exact h1

/-! the tally -/
/-! how many -/
/-! what Check says of locations -/
theorem mayB_loc {x : Ins} (h : mayB x = true) : locB x.loc = true := by
  unfold mayB at h
  have h0 : (x.loc == 0) = true → locB x.loc = true := by intro e; have : x.loc = 0 := by simpa using e
                                                          rw [this]; rfl
  repeat' split at h
  all_goals first
    | (simp only [Bool.and_eq_true] at h; exact h.1.1.1)
    | (simp only [Bool.and_eq_true] at h; exact h0 h.1.1.1)
    | simp at h

theorem badAt_none {l : List Ins} {j : Nat} (h : badAt l j = none) : ∀ x ∈ l, mayB x = true := by
  induction l generalizing j with
  | nil => simp
  | cons y l ih =>
    cases hy : mayB y
    · rw [badAt_bad hy] at h; cases h
    · rw [badAt_ok hy] at h
      intro x hx
      rcases List.mem_cons.1 hx with rfl | hx
      · exact hy
      · exact ih h x hx

theorem insF_none {T : List (List Ins)} {i : Nat} (h : insF T i = none) : ∀ l ∈ T, ∀ x ∈ l, locB x.loc = true := by
  induction T generalizing i with
  | nil => simp
  | cons l T ih =>
    cases hb : badAt l 0 with
    | some j => rw [insF_bad hb] at h; cases h
    | none =>
      rw [insF_ok hb] at h
      intro m hm x hx
      rcases List.mem_cons.1 hm with rfl | hm
      · exact mayB_loc (badAt_none hb x hx)
      · exact ih h m hm x hx

theorem chk_locs {T : List (List Ins)} {c : List Atm} (h : ((chk T c).1 == 0) = true) : ∀ l ∈ T, ∀ x ∈ l, locB x.loc = true := by
  unfold chk at h
  cases hs : sizeB T c
  · rw [hs] at h; simp at h
  · rw [hs] at h
    cases hi : insF T 0 with
    | none => exact insF_none hi
    | some p => rw [hi] at h; simp at h

theorem evsI_locs {i : Nat} {l : List Ins} {p : Nat} (h : ∀ x ∈ l, locB x.loc = true) : ∀ x ∈ evsI i l p, locB x.loc = true := by
  induction l generalizing p with
  | nil => simp [evsI]
  | cons y l ih =>
    intro x hx
    rw [evsI] at hx
    rcases List.mem_append.1 hx with hx | hx
    · obtain ⟨k, _, rfl⟩ := List.mem_map.1 hx
      exact h y (List.mem_cons_self ..)
    · exact ih (fun z hz => h z (List.mem_cons_of_mem _ hz)) x hx

theorem evsT_locs {T : List (List Ins)} {i : Nat} (h : ∀ l ∈ T, ∀ x ∈ l, locB x.loc = true) : ∀ x ∈ evsT T i, locB x.loc = true := by
  induction T generalizing i with
  | nil => simp [evsT]
  | cons l T ih =>
    intro x hx
    rw [evsT] at hx
    rcases List.mem_append.1 hx with hx | hx
    · exact evsI_locs (h l (List.mem_cons_self ..)) x hx
    · exact ih (fun m hm => h m (List.mem_cons_of_mem _ hm)) x hx

end Go.Proofs.YtomijmikkbhgmaaGreat
