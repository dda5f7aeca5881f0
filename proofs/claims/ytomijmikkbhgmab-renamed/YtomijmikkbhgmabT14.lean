import Derived.Test.YtomijmikkbhgmabT13
import Derived.Test.YtomijmikkbhgmabT7
import Derived.Test.YtomijmikkbhgmabT3
import Derived.Deep.CutRange
import Derived.Deep.RegionWith
import Derived.Test.YtomijmikkbhgmabT1
import Derived.Deep.Quiet
import Derived.Deep.QuietTactic
import Derived.BigQuiet
namespace Go.Proofs.Ytomijmikkbhgmab

def restG : List Int → Int → List Int
  | [], _ => []
  | x :: l, w => if x == w then l else restG l w
/-- What stands behind a write (-1: everything) in a list. -/
def restL (l : List Int) (w : Int) : List Int := if w == -1 then l else restG l w

theorem restG_len (l : List Int) (w : Int) : (restG l w).length ≤ l.length := by
  induction l with
  | nil => simp [restG]
  | cons x l ih => unfold restG; split <;> simp <;> omega
theorem restL_len (l : List Int) (w : Int) : (restL l w).length ≤ l.length := by
  unfold restL; split
  · exact Nat.le_refl _
  · exact restG_len l w

theorem restG_mem {l : List Int} {w v : Int} (h : v ∈ restG l w) : v ∈ l := by
  induction l with
  | nil => simp [restG] at h
  | cons x l ih =>
    unfold restG at h
    split at h
    · exact List.mem_cons_of_mem _ h
    · exact List.mem_cons_of_mem _ (ih h)
theorem restL_mem {l : List Int} {w v : Int} (h : v ∈ restL l w) : v ∈ l := by
  unfold restL at h
  split at h
  · exact h
  · exact restG_mem h

def fanL (f : Int) (l : List Int) : List (Int × Int) := l.map fun b => (f, b)

def tailsL : List Int → List (Int × Int)
  | [] => []
  | a :: l => fanL a l ++ tailsL l

def ordAt (x : Exe) (loc : Int) : List Int := x.order.getD loc.toNat []

/-- The arrows that have to do with one read. -/
def arw1 (x : Exe) (q : (Nat × Evt) × Int) : List (Int × Int) :=
  (if q.2 == -1 then [] else [(q.2, (q.1.1 : Int))]) ++ fanL (q.1.1 : Int) (restL (ordAt x q.1.2.loc) q.2)

def arwL (E : List Evt) (x : Exe) : List (Int × Int) := ((rdsX E 0).zip x.from').flatMap (arw1 x) ++ x.order.flatMap tailsL

theorem fanL_len (f : Int) (l : List Int) : (fanL f l).length = l.length := List.length_map ..
theorem fanL_mem {f : Int} {l : List Int} {p : Int × Int} : p ∈ fanL f l ↔ p.1 = f ∧ p.2 ∈ l := by
  unfold fanL
  rw [List.mem_map]
  constructor
  · rintro ⟨b, hb, rfl⟩; exact ⟨rfl, hb⟩
  · rintro ⟨h1, h2⟩; exact ⟨p.2, h2, by rw [← h1]⟩

theorem tailsL_len (l : List Int) : (tailsL l).length ≤ l.length * l.length := by
  induction l with
  | nil => simp [tailsL]
  | cons a l ih =>
    unfold tailsL
    rw [List.length_append, fanL_len, List.length_cons, Nat.mul_add, Nat.add_mul]
    omega

theorem tailsL_mem {l : List Int} {p : Int × Int} (h : p ∈ tailsL l) : p.1 ∈ l ∧ p.2 ∈ l := by
  induction l with
  | nil => simp [tailsL] at h
  | cons a l ih =>
    unfold tailsL at h
    rcases List.mem_append.1 h with h | h
    · obtain ⟨h1, h2⟩ := fanL_mem.1 h
      exact ⟨by rw [h1]; exact List.mem_cons_self .., List.mem_cons_of_mem _ h2⟩
    · exact ⟨List.mem_cons_of_mem _ (ih h).1, List.mem_cons_of_mem _ (ih h).2⟩

end Go.Proofs.Ytomijmikkbhgmab

namespace Go.Proofs.Ytomijmikkbhgmab
open Go.RowKit

/-- The slice that 'rest' hands out. -/
def dropA (ao : Option Addr) (cap k : Nat) : Option Addr := match ao with
  | some a => if cap = k then some a else some ⟨a.block, a.off + k, none⟩
  | none => none
def restW (n : Nat) (ao : Option Addr) (cap : Nat) (x : Int) : List Int → Nat → Value
  | [], _ => .slice none 0 0
  | y :: l, k => if y == x then .slice (dropA ao cap (k + 1)) (n - (k + 1)) (cap - (k + 1)) else restW n ao cap x l (k + 1)
def restV (n : Nat) (ao : Option Addr) (cap : Nat) (l : List Int) (x : Int) : Value := if x == -1 then .slice ao n cap else restW n ao cap x l 0

theorem restW_cap {w : World} {l : List Int} {ao : Option Addr} {cap : Nat} (h : IntCap w (.slice ao l.length cap) l) (hc : l.length ≤ cap) (x : Int) (k : Nat) (hk : k ≤ l.length) : IntCap w (restW l.length ao cap x (l.drop k) k) (restG (l.drop k) x) := by
  generalize hm : l.length - k = m
  induction m generalizing k with
  | zero => rw [drop_nil (by omega)]; exact intCap_nil _
  | succ m ih =>
    have hlt : k < l.length := by omega
    obtain ⟨y, hy⟩ := get_of_lt hlt
    rw [drop_cons hy]
    unfold restW restG
    split
    · obtain ⟨ao', b, off, cap', hs, _⟩ := h
      have hv := hs.hv
      simp only [Value.slice.injEq] at hv
      obtain ⟨rfl, _, rfl⟩ := hv
      have ha := hs.ha (ne_nil hlt)
      subst ha
      exact intCap_drop hs hc (by omega)
    · exact ih (k + 1) (by omega) (by omega)

theorem restV_cap {w : World} {l : List Int} {ao : Option Addr} {cap : Nat} (h : IntCap w (.slice ao l.length cap) l) (hc : l.length ≤ cap) (x : Int) : IntCap w (restV l.length ao cap l x) (restL l x) := by
  unfold restV restL
  split
  · exact h
  · exact restW_cap h hc x 0 (Nat.zero_le _)

theorem restW_hit {n cap k b off : Nat} {x : Int} (l : List Int) : restW n (some ⟨b, off, none⟩) cap x (x :: l) k = .slice (if cap = k + 1 then (some ⟨b, off, none⟩ : Option Addr) else some ⟨b, off + (k + 1), none⟩) (n - (k + 1)) (cap - (k + 1)) := by
  rw [restW, if_pos (by simp)]; rfl
theorem restW_mis {n cap k : Nat} {ao : Option Addr} {x y : Int} (h : (y == x) = false) (l : List Int) : restW n ao cap x (y :: l) k = restW n ao cap x l (k + 1) := by rw [restW, if_neg (by simp [h])]

def arwV (p : Int × Int) : List Value := [.int .i64 p.1, .int .i64 p.2]

end Go.Proofs.Ytomijmikkbhgmab

namespace Go.Proofs.Ytomijmikkbhgmab
open Go.RowKit

def memB (k : Int) : Bool := k == 0 || k == 1

def evV (y : Evt) : Value := .agg #[.int .i64 y.thread, .int .i64 y.place, .int .i64 y.kind, .int .i64 y.loc, .int .i64 y.ins.op, .int .i64 y.ins.loc, .int .i64 y.ins.reg, .int .i64 y.ins.val, .int .i64 y.ins.mode]

def markB (a b : Evt) : Bool := (a.kind == 2 || a.kind == 4 || a.kind == 5) || ((b.kind == 3 || b.kind == 4 || b.kind == 5) || ((a.kind == 0 && a.ins.mode == 1) || (b.kind == 1 && b.ins.mode == 2)))

/-- The last Read of a thread into a register, or what is told. -/
def srcG (y : Evt) : List Evt → Nat → Int → Int
  | [], _, at' => at'
  | z :: l, i, at' => srcG y l (i + 1) (if z.kind == 0 && z.thread == y.thread && z.ins.reg == y.ins.reg then (i : Int) else at')

/-- The events of a kind. -/
def thoL (kd : Int) : List Evt → Nat → List Int
  | [], _ => []
  | x :: E, i => if x.kind == kd then (i : Int) :: thoL kd E (i + 1) else thoL kd E (i + 1)

end Go.Proofs.Ytomijmikkbhgmab

namespace Go.Proofs.Ytomijmikkbhgmab

/-- The value of an event, by no more than so many steps. -/
def valN (E : List Evt) (S : Nat → Int) : Nat → Int → Int
  | 0, _ => 0
  | d + 1, i => if i < 0 then 0 else match E[i.toNat]? with
    | none => 0
    | some y => if y.kind == 0 then valN E S d (S i.toNat) else if y.ins.op == 1 then valN E S d (srcG y (E.take i.toNat) 0 (-1)) else y.ins.val

theorem valN_neg (E : List Evt) (S : Nat → Int) (d : Nat) {i : Int} (h : i < 0) : valN E S d i = 0 := by
  cases d with
  | zero => rfl
  | succ d => unfold valN; rw [if_pos h]
theorem valN_read {E : List Evt} {S : Nat → Int} {d i : Nat} {y : Evt} (h : E[i]? = some y) (hk : (y.kind == 0) = true) : valN E S (d + 1) (i : Int) = valN E S d (S i) := by
  rw [valN, if_neg (by omega), Int.toNat_natCast, h]
  simp only [hk, if_true]
theorem valN_copy {E : List Evt} {S : Nat → Int} {d i : Nat} {y : Evt} (h : E[i]? = some y) (hk : (y.kind == 0) = false) (ho : (y.ins.op == 1) = true) : valN E S (d + 1) (i : Int) = valN E S d (srcG y (E.take i) 0 (-1)) := by
  rw [valN, if_neg (by omega), Int.toNat_natCast, h]
  simp only [hk, ho, if_true, Bool.false_eq_true, if_false]
theorem valN_else {E : List Evt} {S : Nat → Int} {d i : Nat} {y : Evt} (h : E[i]? = some y) (hk : (y.kind == 0) = false) (ho : (y.ins.op == 1) = false) : valN E S (d + 1) (i : Int) = y.ins.val := by
  rw [valN, if_neg (by omega), Int.toNat_natCast, h]
  simp only [hk, ho, Bool.false_eq_true, if_false]

/-- An event of a thread, into a register: for those who look for the last Read. -/
def evtOf (thread reg : Int) : Evt := ⟨thread, 0, 0, 0, ⟨0, 0, reg, 0, 0⟩⟩

def regV (E : List Evt) (S : Nat → Int) (i r : Nat) : Int := valN E S (2 * E.length) (srcG (evtOf i r) E 0 (-1))
def locV (E : List Evt) (S : Nat → Int) (x : Exe) (j : Nat) : Int := match (x.order.getD j []).getLast? with
  | none => 0
  | some w => valN E S (2 * E.length) w
/-- What is held in the end. -/
def staL (k : Nat) (E : List Evt) (S : Nat → Int) (x : Exe) : List Int := ((List.range k).flatMap fun i => (List.range 3).map (regV E S i)) ++ (List.range 3).map (locV E S x)

theorem srcG_range (y : Evt) (E : List Evt) (i : Nat) (a : Int) (ha : a = -1 ∨ ∃ k : Nat, a = (k : Int) ∧ k < i) : srcG y E i a = -1 ∨ ∃ k : Nat, srcG y E i a = (k : Int) ∧ k < i + E.length := by
  induction E generalizing i a with
  | nil =>
    rcases ha with h | ⟨k, h1, h2⟩
    · exact .inl h
    · exact .inr ⟨k, h1, by simpa using h2⟩
  | cons z E ih =>
    rw [srcG]
    have h2 := ih (i + 1) (if z.kind == 0 && z.thread == y.thread && z.ins.reg == y.ins.reg then (i : Int) else a) (by
      split
      · exact .inr ⟨i, rfl, by omega⟩
      · rcases ha with h | ⟨k, h1, h2⟩
        · exact .inl h
        · exact .inr ⟨k, h1, by omega⟩)
    rcases h2 with h | ⟨k, h1, h2⟩
    · exact .inl h
    · exact .inr ⟨k, h1, by rw [List.length_cons]; omega⟩

end Go.Proofs.Ytomijmikkbhgmab

namespace Go.Proofs.Ytomijmikkbhgmab
open Go.RowKit

theorem zip_get {α β : Type} {l : List α} {m : List β} {k : Nat} {a : α} {b : β} (h1 : l[k]? = some a) (h2 : m[k]? = some b) : (l.zip m)[k]? = some (a, b) := by
  rw [List.getElem?_zip_eq_some]; exact ⟨h1, h2⟩

/-- Has a list each entry of another one, and as many? -/
def shufB (l m : List Int) : Bool := l.length == m.length && m.all fun y => l.contains y

end Go.Proofs.Ytomijmikkbhgmab

namespace Go.Proofs.Ytomijmikkbhgmab
open Go.RowKit

/-- The worlds that come of one by making memory. -/
structure Grw (w : World) where
  val : World
  low : Below w.heap.size w val

theorem grw_some (w : World) : Nonempty (Grw w) := ⟨⟨w, Below.refl _ _⟩⟩

theorem wp_region_grown {P : Program} {id : Nat} {Q : Exit → Act → World → Prop} {a : Act} {w : World} {l : List Oper} (hm : P.follows .mixedOrders = true) (hB : Region.lexB .any l.toArray = true)
    (h : wpQuiet P l.toArray (fun w' => ∃ z : Grw w, w' = z.val) (fun a' => ∀ w', (∃ z : Grw w, w' = z.val) → Q .normal a' w') l a) : (Code.region id l.toArray true).wp P Q a w :=
  wp_region_quiet (C := fun w' => ∃ z : Grw w, w' = z.val) hm hB ⟨⟨w.drew, (Below.refl _ _).drew⟩, rfl⟩ (by simpa using h)

theorem grown_call {P : Program} {f : FuncId} {args : Array Value} {w : World} {z : Grw w} {v : Value} (h : Calls P f args z.val fun e w' => e = .returned v ∧ Below z.val.heap.size z.val w') :
    Calls P f args z.val fun e w'' => e = .returned v ∧ ∃ z' : Grw w, w'' = z'.val :=
  h.mono fun _ w'' ⟨he, hb⟩ => ⟨he, ⟨w'', below_more z.low hb⟩, rfl⟩

theorem grown_cell {w : World} {b o : Nat} {u : Value} (h : w.cell? ⟨b, o, none⟩ = some u) : ∀ z : Grw w, z.val.cell? ⟨b, o, none⟩ = some u := fun z => keep_cell z.low h

end Go.Proofs.Ytomijmikkbhgmab

namespace Go.Proofs.Ytomijmikkbhgmab
open Go.RowKit

/-- From which event a Read reads, by its number. -/
def frG : List ((Nat × Evt) × Int) → Int → Int
  | [], _ => -1
  | q :: l, r => if (q.1.1 : Int) == r then q.2 else frG l r

theorem frG_hit {q : (Nat × Evt) × Int} {r : Int} (h : ((q.1.1 : Int) == r) = true) (l : List ((Nat × Evt) × Int)) : frG (q :: l) r = q.2 := by rw [frG, if_pos h]
theorem frG_mis {q : (Nat × Evt) × Int} {r : Int} (h : ((q.1.1 : Int) == r) = false) (l : List ((Nat × Evt) × Int)) : frG (q :: l) r = frG l r := by rw [frG, if_neg (by simp [h])]
theorem frG_mem (l : List ((Nat × Evt) × Int)) (r : Int) : frG l r = -1 ∨ ∃ q ∈ l, frG l r = q.2 ∧ (q.1.1 : Int) = r := by
  induction l with
  | nil => exact .inl rfl
  | cons q l ih =>
    cases h : ((q.1.1 : Int) == r)
    · rw [frG_mis h]
      rcases ih with h1 | ⟨q', h1, h2⟩
      · exact .inl h1
      · exact .inr ⟨q', List.mem_cons_of_mem _ h1, h2⟩
    · rw [frG_hit h]; exact .inr ⟨q, List.mem_cons_self .., rfl, by simpa using h⟩

/-- Numbers of events, or -1. -/
def EvI (n : Nat) (i : Int) : Prop := i = -1 ∨ ∃ k : Nat, i = (k : Int) ∧ k < n

end Go.Proofs.Ytomijmikkbhgmab

namespace Go.Proofs.Ytomijmikkbhgmab
open Go.RowKit

def cmpL : List Int → List Int → Int
  | a :: l, b :: m => if a == b then cmpL l m else a - b
  | _, _ => 0
theorem cmpL_eq {a b : Int} (h : (a == b) = true) (l m : List Int) : cmpL (a :: l) (b :: m) = cmpL l m := by rw [cmpL, if_pos h]
theorem cmpL_ne {a b : Int} (h : (a == b) = false) (l m : List Int) : cmpL (a :: l) (b :: m) = a - b := by rw [cmpL, if_neg (by simp [h])]

theorem below_drN {n : Nat} {w w' : World} (h : Below n w w') (k : Nat) : Below n w (w'.drewN k) := ⟨h.os, h.tape, h.output, h.size, h.block⟩

/-- Small numbers. -/
def Small (l : List Int) : Prop := ∀ a ∈ l, -1000 ≤ a ∧ a ≤ 1000

/-- Where an atom looks in a state. -/
def idxA (n : Nat) (a : Atm) : Nat := (if a.thread == -1 then 3 * (n : Int) + a.at' else 3 * a.thread + a.at').toNat
/-- Does the condition hold in a state? -/
def metB (n : Nat) (c : List Atm) (s : List Int) : Bool := c.all fun a => s.getD (idxA n a) 0 == a.val

/-- Atoms that may be. -/
def AtmsOk (n : Nat) (c : List Atm) : Prop := ∀ a ∈ c, atmB a n = true

theorem atms_ok {n : Nat} {c : List Atm} {i : Nat} (h : atmF c i n = none) : AtmsOk n c := by
  induction c generalizing i with
  | nil => intro a ha; cases ha
  | cons x c ih =>
    rw [atmF] at h
    cases hx : atmB x n
    · rw [hx] at h; simp at h
    · rw [hx] at h
      intro a ha
      rcases List.mem_cons.1 ha with rfl | ha
      · exact hx
      · exact ih (by simpa using h) a ha

theorem atm_range {n : Nat} {a : Atm} (h : atmB a n = true) : (a.thread = -1 ∧ 0 ≤ a.at' ∧ a.at' < 3) ∨ (0 ≤ a.thread ∧ a.thread < n ∧ 0 ≤ a.at' ∧ a.at' < 3) := by
  unfold atmB at h
  simp only [Bool.and_eq_true] at h
  by_cases ht : a.thread = -1
  · have := h.2
    rw [ht] at this
    unfold locB at this
    simp at this
    exact .inl ⟨ht, by omega⟩
  · have := h.2
    have ht' : (a.thread == -1) = false := by simpa using ht
    rw [ht'] at this
    unfold locB at this
    simp at this
    exact .inr (by omega)

end Go.Proofs.Ytomijmikkbhgmab

namespace Go.Proofs.Ytomijmikkbhgmab
open Go.RowKit

/-- A state, or nil. -/
def OptV (w : World) (u : Value) : Option (List Int) → Prop
  | none => u = .slice none 0 0
  | some l => IntAt w u l ∧ l ≠ []
def OptC (w : World) (b off : Nat) (o : Option (List Int)) : Prop := ∃ u, w.cell? ⟨b, off, none⟩ = some u ∧ OptV w u o
def OptAt (w : World) (v : Value) (L : List (Option (List Int))) : Prop := ∃ ao b off cap, SlAt w 1 OptC v L ao b off cap

theorem IntAt.drN {w : World} {v : Value} {l : List Int} (h : IntAt w v l) (n : Nat) : IntAt (w.drewN n) v l := h.keep (below_drN (Below.refl _ w) n)
theorem OptV.drewN {w : World} {u : Value} {o : Option (List Int)} (h : OptV w u o) (n : Nat) : OptV (w.drewN n) u o := by
  cases o with
  | none => exact h
  | some l => exact ⟨h.1.drN n, h.2⟩

/-- One state more: is it the least so far of those that are greater than one? -/
def lstep (than best o : Option (List Int)) : Option (List Int) := match o with
  | none => best
  | some l => if (match than with | none => false | some t => decide (cmpL l t ≤ 0)) then best else match best with
    | none => some l
    | some b => if decide (0 ≤ cmpL l b) then best else some l
def leastO (than : Option (List Int)) (best : Option (List Int)) : List (Option (List Int)) → Option (List Int)
  | [] => best
  | o :: L => leastO than (lstep than best o) L

/-- States of one length, of small numbers. -/
def StOk (n : Nat) (o : Option (List Int)) : Prop := ∀ l, o = some l → l.length = n ∧ Small l

theorem lstep_ok {n : Nat} {than best o : Option (List Int)} (h1 : StOk n best) (h2 : StOk n o) : StOk n (lstep than best o) := by
  have : lstep than best o = best ∨ lstep than best o = o := by
    unfold lstep
    cases o with
    | none => exact .inl rfl
    | some l =>
      cases than with
      | none =>
        cases best with
        | none => exact .inr rfl
        | some b =>
          simp only
          by_cases h : 0 ≤ cmpL l b <;> simp [h]
      | some t =>
        cases best with
        | none =>
          simp only
          by_cases h : cmpL l t ≤ 0 <;> simp [h]
        | some b =>
          simp only
          by_cases h : cmpL l t ≤ 0 <;> by_cases h' : 0 ≤ cmpL l b <;> simp [h, h']
  rcases this with e | e <;> rw [e] <;> assumption

theorem OptV.form {w : World} {u : Value} {l : List Int} (h : OptV w u (some l)) : ∃ a cap, u = .slice (some a) l.length cap := by
  obtain ⟨⟨ao, b, off, cap, hv, ha, _, _⟩, hne⟩ := h
  exact ⟨_, cap, by rw [hv, ha hne]⟩

end Go.Proofs.Ytomijmikkbhgmab

namespace Go.Proofs.Ytomijmikkbhgmab
open Go.RowKit

theorem srcG_yes {y z : Evt} (l : List Evt) (i : Nat) (a : Int) (h1 : (z.kind == 0) = true) (h2 : (z.thread == y.thread) = true) (h3 : (z.ins.reg == y.ins.reg) = true) : srcG y (z :: l) i a = srcG y l (i + 1) (i : Int) := by rw [srcG, h1, h2, h3]; rfl
theorem srcG_no {y z : Evt} (l : List Evt) (i : Nat) (a : Int) (h : (z.kind == 0 && z.thread == y.thread && z.ins.reg == y.ins.reg) = false) : srcG y (z :: l) i a = srcG y l (i + 1) a := by rw [srcG, h]; rfl

/-- The registers of the first i threads, and of the next one the first r. -/
def regL (E : List Evt) (S : Nat → Int) (i r : Nat) : List Int := ((List.range i).flatMap fun i => (List.range 3).map (regV E S i)) ++ (List.range r).map (regV E S i)
theorem regL_step (E : List Evt) (S : Nat → Int) (i r : Nat) : regL E S i (r + 1) = regL E S i r ++ [regV E S i r] := by unfold regL; rw [List.range_succ (n := r), List.map_append]; simp
theorem regL_next (E : List Evt) (S : Nat → Int) (i : Nat) : regL E S (i + 1) 0 = regL E S i 3 := by unfold regL; rw [List.range_succ (n := i), List.flatMap_append]; simp
theorem regL_len (E : List Evt) (S : Nat → Int) (i r : Nat) : (regL E S i r).length = 3 * i + r := by
  unfold regL
  rw [List.length_append, List.length_map, List.length_range, flat_len _ 3 (fun _ => by simp), List.length_range]; omega

theorem srcE {E : List Evt} (y : Evt) : EvI E.length (srcG y E 0 (-1)) := by
  rcases srcG_range y E 0 (-1) (.inl rfl) with h | ⟨a, h1, h2⟩
  · exact .inl h
  · exact .inr ⟨a, h1, by omega⟩

end Go.Proofs.Ytomijmikkbhgmab

namespace Go.Proofs.Ytomijmikkbhgmab
open Go.RowKit

theorem flat_allF_len (acc : List (List Int)) (os : List (List Int)) : (acc.flatMap fun a => (allF os).map fun r => a ++ r).length = acc.length * plen os := by
  rw [flat_length _ (plen os) acc (fun a _ => by rw [List.length_map, allF_len])]

/-- One read more: each way so far with each of what it may read from. -/
def grow (O : List Int) (acc : List (List Int)) : List (List Int) := acc.flatMap fun a => O.map fun y => a ++ [y]

theorem grow_take {acc : List (List Int)} {j : Nat} {a : List Int} (h : acc[j]? = some a) (O : List Int) : grow O (acc.take (j + 1)) = grow O (acc.take j) ++ O.map fun y => a ++ [y] := by
  unfold grow; rw [take_snoc h, List.flatMap_append]; simp

theorem grow_mem {O : List Int} {acc : List (List Int)} {i : Nat} (h : ∀ a ∈ acc, a.length ≤ i) : ∀ a ∈ grow O acc, a.length ≤ i + 1 := by
  intro a ha
  obtain ⟨b, hb, hx⟩ := List.mem_flatMap.1 ha
  obtain ⟨y, _, rfl⟩ := List.mem_map.1 hx
  have := h b hb
  simp; omega

theorem lst_one (w : World) (t : TypeId) : SlAt (w.alloc (.cells #[.slice none 0 0] t)) 1 LC (.slice (some ⟨w.heap.size, 0, none⟩) 1 1) [[]] (some ⟨w.heap.size, 0, none⟩) w.heap.size 0 1 :=
  ⟨rfl, fun _ => rfl, fun h => by simp at h, fun k x h => by
    match k, h with
    | 0, h => simp at h; subst h; exact ⟨.slice none 0 0, by simp, (intAt_nil _ 0).at'⟩⟩

theorem own_of_ll {w : World} {base : Nat} {V : Value} {L : List (List Int)} {vs : List Value} (h : LL w base V L vs) (n : Nat) (hn : L.length = n) : w.ownsRow base 39 1 V n vs := hn ▸ h.own

end Go.Proofs.Ytomijmikkbhgmab

namespace Go.Proofs.Ytomijmikkbhgmab
open Go.RowKit

theorem le_fac (m : Nat) : m ≤ fac m := by
  induction m with
  | zero => exact Nat.zero_le _
  | succ m ih =>
    have := fac_pos m
    unfold fac
    have := Nat.mul_le_mul_left (m + 1) (fac_pos m)
    omega

/-- The orders that begin with one of the first k entries. -/
def ordTo (m : Nat) (l : List Int) (k : Nat) : List (List Int) := (List.range k).flatMap fun i => (ordN m (l.eraseIdx i)).map fun r => l.getD i 0 :: r

theorem ordTo_succ (m : Nat) (l : List Int) (k : Nat) : ordTo m l (k + 1) = ordTo m l k ++ (ordN m (l.eraseIdx k)).map fun r => l.getD k 0 :: r := by
  unfold ordTo; rw [List.range_succ, List.flatMap_append]; simp

theorem ordTo_all (m : Nat) (l : List Int) : ordTo m l l.length = ordN (m + 1) l := rfl

theorem ordTo_len (m : Nat) (l : List Int) (h : l.length = m + 1) (k : Nat) (hk : k ≤ l.length) : (ordTo m l k).length = k * fac m := by
  unfold ordTo
  rw [flat_length _ (fac m) _ (fun i hi => ?_), List.length_range]
  have hi' : i < k := by simpa using hi
  rw [List.length_map, ordN_len _ _ (by rw [List.length_eraseIdx, if_pos (by omega)]; omega)]

theorem ordN_mem {m : Nat} {l : List Int} (h : l.length = m) : ∀ y ∈ ordN m l, y.length = m := by
  induction m generalizing l with
  | zero => intro y hy; simp [ordN] at hy; subst hy; rfl
  | succ m ih =>
    intro y hy
    obtain ⟨i, hi, hy⟩ := List.mem_flatMap.1 hy
    obtain ⟨r, hr, rfl⟩ := List.mem_map.1 hy
    have hi' : i < l.length := by simpa using hi
    have := ih (l := l.eraseIdx i) (by rw [List.length_eraseIdx, if_pos hi']; omega) r hr
    simp; omega

end Go.Proofs.Ytomijmikkbhgmab
