import Derived.Test.YtomijmikkbhgmabT5
import Derived.Test.YtomijmikkbhgmabMath6
import Derived.Test.YtomijmikkbhgmabQa
import Derived.Deep.OwnRows
import Derived.Deep.CutRange
import Derived.Deep.RegionWith
import Derived.Deep.RegionLaw
import Derived.BigQuiet
import Derived.StillTailTactics
import Derived.Test.YtomijmikkbhgmabT1
namespace Go.Proofs.Ytomijmikkbhgmab
open Go.RowKit

/-- The reads: their numbers, and they themselves. -/
def rdsX : List Evt → Nat → List (Nat × Evt)
  | [], _ => []
  | x :: E, i => if x.kind == 0 then (i, x) :: rdsX E (i + 1) else rdsX E (i + 1)
def rdsI (E : List Evt) (i : Nat) : List Int := (rdsX E i).map fun p => (p.1 : Int)

theorem rdsX_hit {x : Evt} (h : (x.kind == 0) = true) (E : List Evt) (i : Nat) : rdsX (x :: E) i = (i, x) :: rdsX E (i + 1) := by rw [rdsX, if_pos h]
theorem rdsX_mis {x : Evt} (h : (x.kind == 0) = false) (E : List Evt) (i : Nat) : rdsX (x :: E) i = rdsX E (i + 1) := by rw [rdsX, if_neg (by simp [h])]

theorem rdo_eq (E R : List Evt) (i : Nat) : rdo E R = (rdsX R i).map fun p => -1 :: wrs E 0 p.2.loc := by
  induction R generalizing i with
  | nil => rfl
  | cons x R ih =>
    cases h : x.kind == 0
    · rw [rdsX_mis h, rdo, if_neg (by simp [h])]; exact ih (i + 1)
    · rw [rdsX_hit h, rdo, if_pos h, List.map_cons, ih (i + 1)]

theorem rdsX_get {R : List Evt} {i : Nat} {p : Nat × Evt} (h : p ∈ rdsX R i) : i ≤ p.1 ∧ R[p.1 - i]? = some p.2 := by
  induction R generalizing i with
  | nil => simp [rdsX] at h
  | cons x R ih =>
    have key : p ∈ rdsX R (i + 1) → i ≤ p.1 ∧ (x :: R)[p.1 - i]? = some p.2 := by
      intro hp
      obtain ⟨h1, h2⟩ := ih hp
      refine ⟨by omega, ?_⟩
      rw [show p.1 - i = (p.1 - (i + 1)) + 1 by omega]
      simpa using h2
    cases hk : x.kind == 0
    · rw [rdsX_mis hk] at h; exact key h
    · rw [rdsX_hit hk] at h
      rcases List.mem_cons.1 h with rfl | h
      · simp
      · exact key h

theorem rdsX_len (R : List Evt) (i : Nat) : (rdsX R i).length ≤ R.length := by
  induction R generalizing i with
  | nil => simp [rdsX]
  | cons x R ih => have := ih (i + 1); unfold rdsX; split <;> simp <;> omega

theorem int_cells {w : World} {v : Value} {l : List Int} {ao : Option Addr} {b off cap : Nat} (h : SlAt w 1 IntC v l ao b off cap) : ∀ ad, ao = some ad → ∀ j u, (l.map (Value.int .i64))[j]? = some u → w.cell? (ad.add j) = some u := by
  intro ad had j u hj
  rw [List.getElem?_map] at hj
  obtain ⟨x, hx, rfl⟩ := Option.map_eq_some_iff.1 hj
  have hk : j < l.length := (List.getElem?_eq_some_iff.1 hx).1
  rw [h.ha (ne_nil hk)] at had
  cases had
  have hC := h.hc j x hx
  unfold IntC at hC
  rw [Nat.mul_one] at hC
  rw [Addr.add_lit]; exact hC

end Go.Proofs.Ytomijmikkbhgmab

namespace Go.Proofs.Ytomijmikkbhgmab

def restG : List Int → Int → List Int
  | [], _ => []
  | x :: l, w => if x == w then l else restG l w
/-- What stands behind a write (-1: everything) in a list. -/
def restL (l : List Int) (w : Int) : List Int := if w == -1 then l else restG l w

theorem restG_len (l : List Int) (w : Int) : (restG l w).length ≤ l.length := by
  induction l with
  | nil => simp [restG]
  | cons x l ih => unfold restG; split <;> simp <;> omega
theorem restL_len (l : List Int) (w : Int) : (restL l w).length ≤ l.length := by
  unfold restL; split
  · exact Nat.le_refl _
  · exact restG_len l w

theorem restG_mem {l : List Int} {w v : Int} (h : v ∈ restG l w) : v ∈ l := by
  induction l with
  | nil => simp [restG] at h
  | cons x l ih =>
    unfold restG at h
    split at h
    · exact List.mem_cons_of_mem _ h
    · exact List.mem_cons_of_mem _ (ih h)
theorem restL_mem {l : List Int} {w v : Int} (h : v ∈ restL l w) : v ∈ l := by
  unfold restL at h
  split at h
  · exact h
  · exact restG_mem h

def fanL (f : Int) (l : List Int) : List (Int × Int) := l.map fun b => (f, b)

def tailsL : List Int → List (Int × Int)
  | [] => []
  | a :: l => fanL a l ++ tailsL l

def ordAt (x : Exe) (loc : Int) : List Int := x.order.getD loc.toNat []

/-- The arrows that have to do with one read. -/
def arw1 (x : Exe) (q : (Nat × Evt) × Int) : List (Int × Int) :=
  (if q.2 == -1 then [] else [(q.2, (q.1.1 : Int))]) ++ fanL (q.1.1 : Int) (restL (ordAt x q.1.2.loc) q.2)

def arwL (E : List Evt) (x : Exe) : List (Int × Int) := ((rdsX E 0).zip x.from').flatMap (arw1 x) ++ x.order.flatMap tailsL

theorem fanL_len (f : Int) (l : List Int) : (fanL f l).length = l.length := List.length_map ..
theorem fanL_mem {f : Int} {l : List Int} {p : Int × Int} : p ∈ fanL f l ↔ p.1 = f ∧ p.2 ∈ l := by
  unfold fanL
  rw [List.mem_map]
  constructor
  · rintro ⟨b, hb, rfl⟩; exact ⟨rfl, hb⟩
  · rintro ⟨h1, h2⟩; exact ⟨p.2, h2, by rw [← h1]⟩

theorem tailsL_len (l : List Int) : (tailsL l).length ≤ l.length * l.length := by
  induction l with
  | nil => simp [tailsL]
  | cons a l ih =>
    unfold tailsL
    rw [List.length_append, fanL_len, List.length_cons, Nat.mul_add, Nat.add_mul]
    omega

theorem tailsL_mem {l : List Int} {p : Int × Int} (h : p ∈ tailsL l) : p.1 ∈ l ∧ p.2 ∈ l := by
  induction l with
  | nil => simp [tailsL] at h
  | cons a l ih =>
    unfold tailsL at h
    rcases List.mem_append.1 h with h | h
    · obtain ⟨h1, h2⟩ := fanL_mem.1 h
      exact ⟨by rw [h1]; exact List.mem_cons_self .., List.mem_cons_of_mem _ h2⟩
    · exact ⟨List.mem_cons_of_mem _ (ih h).1, List.mem_cons_of_mem _ (ih h).2⟩

end Go.Proofs.Ytomijmikkbhgmab

namespace Go.Proofs.Ytomijmikkbhgmab
open Go.RowKit

/-- The slice that 'rest' hands out. -/
def dropA (ao : Option Addr) (cap k : Nat) : Option Addr := match ao with
  | some a => if cap = k then some a else some ⟨a.block, a.off + k, none⟩
  | none => none
def restW (n : Nat) (ao : Option Addr) (cap : Nat) (x : Int) : List Int → Nat → Value
  | [], _ => .slice none 0 0
  | y :: l, k => if y == x then .slice (dropA ao cap (k + 1)) (n - (k + 1)) (cap - (k + 1)) else restW n ao cap x l (k + 1)
def restV (n : Nat) (ao : Option Addr) (cap : Nat) (l : List Int) (x : Int) : Value := if x == -1 then .slice ao n cap else restW n ao cap x l 0

theorem restW_cap {w : World} {l : List Int} {ao : Option Addr} {cap : Nat} (h : IntCap w (.slice ao l.length cap) l) (hc : l.length ≤ cap) (x : Int) (k : Nat) (hk : k ≤ l.length) : IntCap w (restW l.length ao cap x (l.drop k) k) (restG (l.drop k) x) := by
  generalize hm : l.length - k = m
  induction m generalizing k with
  | zero => rw [drop_nil (by omega)]; exact intCap_nil _
  | succ m ih =>
    have hlt : k < l.length := by omega
    obtain ⟨y, hy⟩ := get_of_lt hlt
    rw [drop_cons hy]
    unfold restW restG
    split
    · obtain ⟨ao', b, off, cap', hs, _⟩ := h
      have hv := hs.hv
      simp only [Value.slice.injEq] at hv
      obtain ⟨rfl, _, rfl⟩ := hv
      have ha := hs.ha (ne_nil hlt)
      subst ha
      exact intCap_drop hs hc (by omega)
    · exact ih (k + 1) (by omega) (by omega)

theorem restV_cap {w : World} {l : List Int} {ao : Option Addr} {cap : Nat} (h : IntCap w (.slice ao l.length cap) l) (hc : l.length ≤ cap) (x : Int) : IntCap w (restV l.length ao cap l x) (restL l x) := by
  unfold restV restL
  split
  · exact h
  · exact restW_cap h hc x 0 (Nat.zero_le _)

theorem restW_hit {n cap k b off : Nat} {x : Int} (l : List Int) : restW n (some ⟨b, off, none⟩) cap x (x :: l) k = .slice (if cap = k + 1 then (some ⟨b, off, none⟩ : Option Addr) else some ⟨b, off + (k + 1), none⟩) (n - (k + 1)) (cap - (k + 1)) := by
  rw [restW, if_pos (by simp)]; rfl
theorem restW_mis {n cap k : Nat} {ao : Option Addr} {x y : Int} (h : (y == x) = false) (l : List Int) : restW n ao cap x (y :: l) k = restW n ao cap x l (k + 1) := by rw [restW, if_neg (by simp [h])]

def arwV (p : Int × Int) : List Value := [.int .i64 p.1, .int .i64 p.2]

end Go.Proofs.Ytomijmikkbhgmab

namespace Go.Proofs.Ytomijmikkbhgmab
open Go.RowKit

def memB (k : Int) : Bool := k == 0 || k == 1

def evV (y : Evt) : Value := .agg #[.int .i64 y.thread, .int .i64 y.place, .int .i64 y.kind, .int .i64 y.loc, .int .i64 y.ins.op, .int .i64 y.ins.loc, .int .i64 y.ins.reg, .int .i64 y.ins.val, .int .i64 y.ins.mode]

def markB (a b : Evt) : Bool := (a.kind == 2 || a.kind == 4 || a.kind == 5) || ((b.kind == 3 || b.kind == 4 || b.kind == 5) || ((a.kind == 0 && a.ins.mode == 1) || (b.kind == 1 && b.ins.mode == 2)))

/-- The last Read of a thread into a register, or what is told. -/
def srcG (y : Evt) : List Evt → Nat → Int → Int
  | [], _, at' => at'
  | z :: l, i, at' => srcG y l (i + 1) (if z.kind == 0 && z.thread == y.thread && z.ins.reg == y.ins.reg then (i : Int) else at')

/-- The events of a kind. -/
def thoL (kd : Int) : List Evt → Nat → List Int
  | [], _ => []
  | x :: E, i => if x.kind == kd then (i : Int) :: thoL kd E (i + 1) else thoL kd E (i + 1)

end Go.Proofs.Ytomijmikkbhgmab

namespace Go.Proofs.Ytomijmikkbhgmab

theorem nodup_le {l m : List Int} (h : l.Nodup) (hs : ∀ x ∈ l, x ∈ m) : l.length ≤ m.length := by
  induction l generalizing m with
  | nil => simp
  | cons a l ih =>
    have ha : a ∈ m := hs a (List.mem_cons_self ..)
    obtain ⟨hn, hl⟩ := List.nodup_cons.1 h
    have h1 := ih hl (m := m.erase a) (fun x hx => (List.mem_erase_of_ne (by rintro rfl; exact hn hx)).2 (hs x (List.mem_cons_of_mem _ hx)))
    rw [List.length_erase_of_mem ha] at h1
    have h2 := List.length_pos_of_mem ha
    rw [List.length_cons]; omega
theorem nodup_cast {l : List Nat} (h : l.Nodup) : (l.map (fun a : Nat => (a : Int))).Nodup := List.Pairwise.map _ (fun a b hab => by omega) h

/-- Does an arrow of the list lead from one event to another? -/
def arwB (A : List (Int × Int)) (a b : Nat) : Bool := A.contains ((a : Int), (b : Int))

theorem arwB_iff {A : List (Int × Int)} {a b : Nat} : arwB A a b = true ↔ ((a : Int), (b : Int)) ∈ A := by unfold arwB; simp

theorem arwB_snoc (A : List (Int × Int)) (p : Int × Int) (a b : Nat) : arwB (A ++ [p]) a b = (decide ((a : Int) = p.1 ∧ (b : Int) = p.2) || arwB A a b) := by
  unfold arwB
  rw [Bool.eq_iff_iff]
  simp [Prod.ext_iff, or_comm]

/-- How many arrows lead into an event, from those below m. -/
def inTo (A : List (Int × Int)) (m j : Nat) : Nat := ((List.range m).filter fun a : Nat => arwB A a j).length

theorem inTo_zero (A : List (Int × Int)) (j : Nat) : inTo A 0 j = 0 := rfl
theorem inTo_yes {A : List (Int × Int)} {m j : Nat} (h : arwB A m j = true) : inTo A (m + 1) j = inTo A m j + 1 := by
  unfold inTo; rw [List.range_succ, List.filter_append, List.length_append]; simp [h]
theorem inTo_no {A : List (Int × Int)} {m j : Nat} (h : arwB A m j = false) : inTo A (m + 1) j = inTo A m j := by
  unfold inTo; rw [List.range_succ, List.filter_append, List.length_append]; simp [h]
theorem inTo_le (A : List (Int × Int)) (m j : Nat) : inTo A m j ≤ m := by
  unfold inTo
  have := List.length_filter_le (fun a : Nat => arwB A a j) (List.range m)
  simpa using this

/-- How many arrows lead into an event, from those that are not gone. -/
def cnt (A : List (Int × Int)) (n : Nat) (P : List Int) (j : Nat) : Nat := ((List.range n).filter fun a : Nat => !P.contains (a : Int) && arwB A a j).length

theorem cnt_nil (A : List (Int × Int)) (n j : Nat) : cnt A n [] j = inTo A n j := by unfold cnt inTo; simp

theorem cnt_le (A : List (Int × Int)) (n : Nat) (P : List Int) (j : Nat) : cnt A n P j ≤ n := by
  unfold cnt
  have := List.length_filter_le (fun a : Nat => !P.contains (a : Int) && arwB A a j) (List.range n)
  simpa using this

theorem cnt_zero {A : List (Int × Int)} {n : Nat} {P : List Int} {j : Nat} (h : cnt A n P j = 0) {a : Nat} (ha : a < n) (hA : arwB A a j = true) : (a : Int) ∈ P := by
  unfold cnt at h
  have h0 := List.eq_nil_of_length_eq_zero h
  by_cases hm : (a : Int) ∈ P
  · exact hm
  · have : a ∈ (List.range n).filter fun a : Nat => !P.contains (a : Int) && arwB A a j := by
      rw [List.mem_filter]; exact ⟨by simpa using ha, by simp [hm, hA]⟩
    rw [h0] at this; cases this

theorem cnt_pos {A : List (Int × Int)} {n : Nat} {P : List Int} {j : Nat} (h : cnt A n P j ≠ 0) : ∃ a, a < n ∧ (a : Int) ∉ P ∧ arwB A a j = true := by
  unfold cnt at h
  obtain ⟨a, ha⟩ := List.exists_mem_of_length_pos (Nat.pos_of_ne_zero h)
  rw [List.mem_filter] at ha
  refine ⟨a, by simpa using ha.1, ?_, ?_⟩
  · have := ha.2; simp at this; exact this.1
  · have := ha.2; simp at this; exact this.2

theorem cnt_snoc_aux (A : List (Int × Int)) (P : List Int) (e j : Nat) (he : (e : Int) ∉ P) (n : Nat) :
    ((List.range n).filter fun a : Nat => !P.contains (a : Int) && arwB A a j).length = ((List.range n).filter fun a : Nat => !(P ++ [(e : Int)]).contains (a : Int) && arwB A a j).length + (if e < n ∧ arwB A e j = true then 1 else 0) := by
  induction n with
  | zero => simp
  | succ n ih =>
    rw [List.range_succ, List.filter_append, List.filter_append, List.length_append, List.length_append, ih]
    by_cases e1 : e = n
    · subst e1
      have hnot : ¬ (e < e ∧ arwB A e j = true) := by omega
      rw [if_neg hnot]
      cases hA : arwB A e j
      · simp [hA]
      · simp [hA, he]
    · have h1 : (if e < n + 1 ∧ arwB A e j = true then 1 else 0) = (if e < n ∧ arwB A e j = true then 1 else 0) := by
        by_cases h2 : e < n
        · simp [h2, Nat.lt_succ_of_lt h2]
        · have : ¬ e < n + 1 := by omega
          simp [h2, this]
      rw [h1]
      have h3 : ((n : Int) = (e : Int)) = False := by simp; omega
      have h4 : (P ++ [(e : Int)]).contains (n : Int) = P.contains (n : Int) := by
        rw [Bool.eq_iff_iff]; simp; intro h; omega
      have h5 : (List.filter (fun a : Nat => !(P ++ [(e : Int)]).contains (a : Int) && arwB A a j) [n]).length = (List.filter (fun a : Nat => !P.contains (a : Int) && arwB A a j) [n]).length := by
        simp only [List.filter_cons, List.filter_nil, h4]
      rw [h5]; omega

theorem cnt_snoc_yes {A : List (Int × Int)} {n : Nat} {P : List Int} {e j : Nat} (he : (e : Int) ∉ P) (hn : e < n) (h : arwB A e j = true) : cnt A n P j = cnt A n (P ++ [(e : Int)]) j + 1 := by
  have := cnt_snoc_aux A P e j he n
  rw [if_pos ⟨hn, h⟩] at this; exact this
theorem cnt_snoc_no {A : List (Int × Int)} {n : Nat} {P : List Int} {e j : Nat} (he : (e : Int) ∉ P) (h : arwB A e j = false) : cnt A n P j = cnt A n (P ++ [(e : Int)]) j := by
  have := cnt_snoc_aux A P e j he n
  rw [if_neg (by rw [h]; simp)] at this; exact this

/-- In the midst of the counting: d events have gone, and of the next one the arrows to those below t. -/
structure Kahn (n : Nat) (A : List (Int × Int)) (F : List Int) (d t : Nat) : Prop where
  nat : ∀ x ∈ F, ∃ a : Nat, a < n ∧ x = (a : Int)
  nodup : F.Nodup
  free : ∀ j, j < n → ((j : Int) ∈ F ↔ cnt A n (F.take (if j < t then d + 1 else d)) j = 0)
  safe : ∀ S, Core n A S → ∀ b, b < n → S b → (b : Int) ∉ F

theorem Kahn.len {n : Nat} {A : List (Int × Int)} {F : List Int} {d t : Nat} (h : Kahn n A F d t) : F.length ≤ n := by
  have h1 : ∀ x ∈ F, x ∈ (List.range n).map (fun a : Nat => (a : Int)) := fun x hx => by
    obtain ⟨a, ha, rfl⟩ := h.nat x hx
    exact List.mem_map.2 ⟨a, by simpa using ha, rfl⟩
  have := nodup_le h.nodup h1
  simpa using this

/-- The first ones: those into which no arrow leads, below m. -/
def noneIn (A : List (Int × Int)) (n m : Nat) : List Int := ((List.range m).filter fun j => inTo A n j == 0).map fun j : Nat => (j : Int)

theorem noneIn_yes {A : List (Int × Int)} {n m : Nat} (h : inTo A n m = 0) : noneIn A n (m + 1) = noneIn A n m ++ [(m : Int)] := by
  unfold noneIn; rw [List.range_succ, List.filter_append, List.map_append]; simp [h]
theorem noneIn_no {A : List (Int × Int)} {n m : Nat} (h : inTo A n m ≠ 0) : noneIn A n (m + 1) = noneIn A n m := by
  unfold noneIn; rw [List.range_succ, List.filter_append, List.map_append]; simp [h]
theorem noneIn_len (A : List (Int × Int)) (n m : Nat) : (noneIn A n m).length ≤ m := by
  unfold noneIn; rw [List.length_map]
  have := List.length_filter_le (fun j => inTo A n j == 0) (List.range m)
  simpa using this

theorem Kahn.start (n : Nat) (A : List (Int × Int)) : Kahn n A (noneIn A n n) 0 0 := by
  have key : ∀ j : Nat, ((j : Int) ∈ noneIn A n n ↔ j < n ∧ inTo A n j = 0) := by
    intro j
    unfold noneIn
    rw [List.mem_map]
    constructor
    · rintro ⟨a, ha, e⟩
      have : a = j := by omega
      subst this
      rw [List.mem_filter] at ha
      exact ⟨by simpa using ha.1, by simpa using ha.2⟩
    · rintro ⟨h1, h2⟩
      exact ⟨j, by rw [List.mem_filter]; exact ⟨by simpa using h1, by simpa using h2⟩, rfl⟩
  refine ⟨fun x hx => ?_, ?_, fun j hj => ?_, fun S hS b hb hSb hF => ?_⟩
  · unfold noneIn at hx
    obtain ⟨a, ha, rfl⟩ := List.mem_map.1 hx
    rw [List.mem_filter] at ha
    exact ⟨a, by simpa using ha.1, rfl⟩
  · unfold noneIn
    refine nodup_cast (List.Pairwise.filter _ List.nodup_range)
  · rw [key, if_neg (by omega), List.take_zero, cnt_nil]
    exact ⟨fun h => h.2, fun h => ⟨hj, h⟩⟩
  · obtain ⟨a, ha, hSa, hm⟩ := hS b hb hSb
    have h0 := ((key b).1 hF).2
    rw [← cnt_nil] at h0
    have := cnt_zero h0 ha (arwB_iff.2 hm)
    cases this

theorem take_succ_get {F : List Int} {d : Nat} {x : Int} (h : F[d]? = some x) : F.take (d + 1) = F.take d ++ [x] := by
  rw [List.take_add_one, h]; rfl

theorem Kahn.notIn {n : Nat} {A : List (Int × Int)} {F : List Int} {d t : Nat} (h : Kahn n A F d t) {x : Int} (hx : F[d]? = some x) : x ∉ F.take d := by
  intro hm
  obtain ⟨i, hi⟩ := List.mem_iff_getElem?.1 hm
  have hid : i < d := by
    have := (List.getElem?_eq_some_iff.1 hi).1
    rw [List.length_take] at this; omega
  rw [List.getElem?_take_of_lt hid] at hi
  obtain ⟨p1, q1⟩ := List.getElem?_eq_some_iff.1 hi
  obtain ⟨p2, q2⟩ := List.getElem?_eq_some_iff.1 hx
  exact (List.pairwise_iff_getElem.1 h.nodup i d p1 p2 hid) (q1.trans q2.symm)

/-- No arrow to t. -/
theorem Kahn.no {n : Nat} {A : List (Int × Int)} {F : List Int} {d t e : Nat} (h : Kahn n A F d t) (hx : F[d]? = some (e : Int)) (hA : arwB A e t = false) :
    Kahn n A F d (t + 1) ∧ cnt A n (F.take (d + 1)) t = cnt A n (F.take d) t := by
  have hc : cnt A n (F.take (d + 1)) t = cnt A n (F.take d) t := by
    rw [take_succ_get hx]; exact (cnt_snoc_no (h.notIn hx) hA).symm
  refine ⟨⟨h.nat, h.nodup, fun j hj => ?_, h.safe⟩, hc⟩
  rw [h.free j hj]
  by_cases e1 : j = t
  · subst e1; rw [if_neg (by omega), if_pos (by omega), hc]
  · by_cases e2 : j < t
    · rw [if_pos e2, if_pos (by omega)]
    · rw [if_neg e2, if_neg (by omega)]

/-- An arrow to t, and others are left. -/
theorem Kahn.more {n : Nat} {A : List (Int × Int)} {F : List Int} {d t e : Nat} (h : Kahn n A F d t) (hx : F[d]? = some (e : Int)) (ht : t < n) (hA : arwB A e t = true) :
    cnt A n (F.take d) t = cnt A n (F.take (d + 1)) t + 1 ∧ (cnt A n (F.take (d + 1)) t ≠ 0 → Kahn n A F d (t + 1)) ∧
    (cnt A n (F.take (d + 1)) t = 0 → Kahn n A (F ++ [(t : Int)]) d (t + 1)) := by
  obtain ⟨e', he, hee⟩ := h.nat _ (List.mem_of_getElem? hx)
  have : e' = e := by omega
  subst this
  have hc : cnt A n (F.take d) t = cnt A n (F.take (d + 1)) t + 1 := by
    rw [take_succ_get hx]; exact cnt_snoc_yes (h.notIn hx) he hA
  have hnt : (t : Int) ∉ F := by
    intro hm
    have := (h.free t ht).1 hm
    rw [if_neg (by omega)] at this
    omega
  refine ⟨hc, fun hne => ⟨h.nat, h.nodup, fun j hj => ?_, h.safe⟩, fun h0 => ⟨fun x hx => ?_, ?_, fun j hj => ?_, fun S hS b hb hSb hF => ?_⟩⟩
  · by_cases e1 : j = t
    · subst e1
      rw [if_pos (by omega)]
      exact ⟨fun h => absurd h hnt, fun h => absurd h hne⟩
    · rw [h.free j hj]
      by_cases e2 : j < t
      · rw [if_pos e2, if_pos (by omega)]
      · rw [if_neg e2, if_neg (by omega)]
  · rcases List.mem_append.1 hx with hx | hx
    · exact h.nat x hx
    · simp at hx; exact ⟨t, ht, hx⟩
  · rw [List.nodup_append]
    refine ⟨h.nodup, by simp, fun a ha b hb => ?_⟩
    simp at hb; subst hb
    intro e; subst e; exact hnt ha
  · have hd : d < F.length := (List.getElem?_eq_some_iff.1 hx).1
    have ht1 : (F ++ [(t : Int)]).take (d + 1) = F.take (d + 1) := by rw [List.take_append_of_le_length (by omega)]
    have ht2 : (F ++ [(t : Int)]).take d = F.take d := by rw [List.take_append_of_le_length (by omega)]
    by_cases e1 : j = t
    · subst e1
      rw [if_pos (by omega), ht1]
      exact ⟨fun _ => h0, fun _ => by simp⟩
    · have : ((j : Int) ∈ F ++ [(t : Int)] ↔ (j : Int) ∈ F) := by
        simp; intro h; omega
      rw [this, h.free j hj]
      by_cases e2 : j < t
      · rw [if_pos e2, if_pos (by omega), ht1]
      · rw [if_neg e2, if_neg (by omega), ht2]
  · rcases List.mem_append.1 hF with hF | hF
    · exact h.safe S hS b hb hSb hF
    · have : b = t := by simp at hF; omega
      subst this
      obtain ⟨a, ha, hSa, hm⟩ := hS b hb hSb
      have hin := cnt_zero h0 ha (arwB_iff.2 hm)
      exact h.safe S hS a ha hSa (List.mem_of_mem_take hin)

/-- All arrows of the event are gone. -/
theorem Kahn.next {n : Nat} {A : List (Int × Int)} {F : List Int} {d : Nat} (h : Kahn n A F d n) : Kahn n A F (d + 1) 0 := by
  refine ⟨h.nat, h.nodup, fun j hj => ?_, h.safe⟩
  rw [h.free j hj, if_pos hj, if_neg (by omega)]

theorem Kahn.last {n : Nat} {A : List (Int × Int)} {F : List Int} {d : Nat} (h : Kahn n A F d 0) (hd : F.length ≤ d) : decide ((F.length : Int) < (n : Int)) = true ↔ Cyc n A := by
  rw [decide_eq_true_eq]
  have hfree : ∀ j, j < n → ((j : Int) ∈ F ↔ cnt A n F j = 0) := fun j hj => by
    have := h.free j hj
    rw [if_neg (by omega), List.take_of_length_le hd] at this
    exact this
  constructor
  · intro hlt
    have hex : ∃ j, j < n ∧ (j : Int) ∉ F := by
      refine Classical.byContradiction fun hno => ?_
      have hall : ∀ j, j < n → (j : Int) ∈ F := fun j hj => Classical.byContradiction fun h2 => hno ⟨j, hj, h2⟩
      have h1 : ∀ x ∈ (List.range n).map (fun a : Nat => (a : Int)), x ∈ F := fun x hx => by
        obtain ⟨a, ha, rfl⟩ := List.mem_map.1 hx
        exact hall a (by simpa using ha)
      have hnd : ((List.range n).map (fun a : Nat => (a : Int))).Nodup := nodup_cast List.nodup_range
      have := nodup_le hnd h1
      simp at this
      omega
    obtain ⟨j, hj, hjF⟩ := hex
    refine ⟨fun b => (b : Int) ∉ F, ⟨j, hj, hjF⟩, fun b hb hbF => ?_⟩
    obtain ⟨a, ha, haF, hm⟩ := cnt_pos (fun h0 => hbF ((hfree b hb).2 h0))
    exact ⟨a, ha, haF, arwB_iff.1 hm⟩
  · rintro ⟨S, ⟨b, hb, hSb⟩, hS⟩
    have hle := h.len
    have hne : F.length ≠ n := by
      intro e
      have hbF := h.safe S hS b hb hSb
      have hsub : ∀ x ∈ (b : Int) :: F, x ∈ (List.range n).map (fun a : Nat => (a : Int)) := fun x hx => by
        rcases List.mem_cons.1 hx with rfl | hx
        · exact List.mem_map.2 ⟨b, by simpa using hb, rfl⟩
        · obtain ⟨a, ha, rfl⟩ := h.nat x hx
          exact List.mem_map.2 ⟨a, by simpa using ha, rfl⟩
      have := nodup_le (List.nodup_cons.2 ⟨hbF, h.nodup⟩) hsub
      simp at this
      omega
    omega

end Go.Proofs.Ytomijmikkbhgmab

namespace Go.Proofs.Ytomijmikkbhgmab
open Go.RowKit

/-- A row of arrows: whether one leads from a to b stands at a * n + b. -/
def MatAt (w : World) (bl n : Nat) (A : List (Int × Int)) : Prop := w.rowIs bl 4 (n * n) (fun q => .bool (arwB A (q / n) (q % n)))

theorem MatAt.cell {w : World} {bl n : Nat} {A : List (Int × Int)} (h : MatAt w bl n A) {a b : Nat} (ha : a < n) (hb : b < n) : w.cell? ⟨bl, a * n + b, none⟩ = some (.bool (arwB A a b)) := by
  have hq : a * n + b < n * n := by
    have : (a + 1) * n ≤ n * n := Nat.mul_le_mul_right n ha
    rw [Nat.add_mul] at this; omega
  have h1 := World.rowIs.cell h hq
  have e1 : (a * n + b) / n = a := by rw [Nat.mul_comm, Nat.mul_add_div (by omega), Nat.div_eq_of_lt hb]; omega
  have e2 : (a * n + b) % n = b := by rw [Nat.mul_comm, Nat.mul_add_mod, Nat.mod_eq_of_lt hb]
  rw [e1, e2] at h1
  exact h1

theorem MatAt.congr {w : World} {bl n : Nat} {A B : List (Int × Int)} (h : MatAt w bl n A) (e : ∀ a b, a < n → b < n → arwB A a b = arwB B a b) : MatAt w bl n B := by
  refine World.rowIs.congr h fun q hq => ?_
  have hn : 0 < n := Nat.pos_of_ne_zero fun h0 => by subst h0; simp at hq
  rw [e _ _ ((Nat.div_lt_iff_lt_mul hn).2 hq) (Nat.mod_lt _ hn)]

theorem MatAt.set {w : World} {bl n : Nat} {A : List (Int × Int)} (h : MatAt w bl n A) {a b : Nat} (_ha : a < n) (hb : b < n) : MatAt (w.setCell ⟨bl, a * n + b, none⟩ (.bool true)) bl n (A ++ [((a : Int), (b : Int))]) := by
  refine (World.rowIs.set h (a * n + b) (.bool true)).congr fun q hq => ?_
  have hn : 0 < n := by omega
  have hmod := Nat.mod_lt q hn
  rw [arwB_snoc]
  by_cases e : q = a * n + b
  · rw [if_pos e]
    have e1 : (a * n + b) / n = a := by rw [Nat.mul_comm, Nat.mul_add_div (by omega), Nat.div_eq_of_lt hb]; omega
    have e2 : (a * n + b) % n = b := by rw [Nat.mul_comm, Nat.mul_add_mod, Nat.mod_eq_of_lt hb]
    rw [e, e1, e2]; simp
  · rw [if_neg e]
    have h2 : ¬ (q / n = a ∧ q % n = b) := fun ⟨h1, h2⟩ => e (by
      have := Nat.div_add_mod q n
      rw [h1, h2, Nat.mul_comm] at this; exact this.symm)
    have h3 : decide (((q / n : Nat) : Int) = ((a : Int), (b : Int)).1 ∧ ((q % n : Nat) : Int) = ((a : Int), (b : Int)).2) = false := by
      rw [decide_eq_false_iff_not]
      rintro ⟨h4, h5⟩
      exact h2 ⟨by simp only at h4; omega, by simp only at h5; omega⟩
    rw [h3, Bool.false_or]

theorem MatAt.out {w : World} {bl n : Nat} {A : List (Int × Int)} (h : MatAt w bl n A) {x y : Int} (ho : ¬ (0 ≤ x ∧ x < n ∧ 0 ≤ y ∧ y < n)) : MatAt w bl n (A ++ [(x, y)]) := by
  refine h.congr fun a b ha hb => ?_
  rw [arwB_snoc]
  have : decide ((a : Int) = (x, y).1 ∧ (b : Int) = (x, y).2) = false := by
    rw [decide_eq_false_iff_not]
    rintro ⟨rfl, rfl⟩
    exact ho ⟨by omega, by simpa using ha, by omega, by simpa using hb⟩
  rw [this, Bool.false_or]

theorem MatAt.block {w w' : World} {bl n : Nat} {A : List (Int × Int)} (h : MatAt w bl n A) (e : w'.heap[bl]? = w.heap[bl]?) : MatAt w' bl n A := World.rowIs.of_block h e
theorem MatAt.lt {w : World} {bl n : Nat} {A : List (Int × Int)} (h : MatAt w bl n A) : bl < w.heap.size := World.rowIs.lt h
theorem MatAt.keep {w w' : World} {bl n : Nat} {A : List (Int × Int)} (h : MatAt w bl n A) (hb : Below w.heap.size w w') : MatAt w' bl n A := h.block (hb.block _ h.lt)

/-- A set of arrows in memory: its two numbers at block p, its row in block bl. -/
structure SetAt (w : World) (p bl n : Nat) (A : List (Int × Int)) : Prop where
  c0 : w.cell? ⟨p, 0, none⟩ = some (.int .i64 n)
  c1 : w.cell? ⟨p, 1, none⟩ = some (.slice (some ⟨bl, 0, none⟩) (n * n) (n * n))
  mat : MatAt w bl n A
  ne : p ≠ bl
theorem SetAt.keep {w w' : World} {p bl n : Nat} {A : List (Int × Int)} (h : SetAt w p bl n A) (hb : Below w.heap.size w w') : SetAt w' p bl n A := ⟨keep_cell hb h.c0, keep_cell hb h.c1, h.mat.keep hb, h.ne⟩
theorem SetAt.lt {w : World} {p bl n : Nat} {A : List (Int × Int)} (h : SetAt w p bl n A) : p < w.heap.size := World.block_lt_of_cell? w _ h.c0

theorem SetAt.drew {w : World} {p bl n : Nat} {A : List (Int × Int)} (h : SetAt w p bl n A) : SetAt w.drew p bl n A := ⟨h.c0, h.c1, h.mat, h.ne⟩
theorem Only.drew {B : Nat} {w w' : World} (h : Only B w w') : Only B w w'.drew := ⟨h.os, h.tape, h.output, h.size, h.block⟩
theorem Only.setCell (B o : Nat) (u : Value) (w : World) : Only B w (w.setCell ⟨B, o, none⟩ u) :=
  ⟨rfl, rfl, rfl, by simp [World.setCell], fun k _ hn => Below.heap_setCell w ⟨B, o, none⟩ u k hn⟩

theorem sq_le {n : Nat} (h : n ≤ 96) : n * n ≤ 9216 := Nat.mul_le_mul h h

set_option maxHeartbeats 1000000 in
theorem new_any (n : Nat) (hn : n ≤ 96) (w : World) :
    Calls Try.prog 112 #[.int .i64 n] w fun e w' => e = .returned (.agg #[.int .i64 n, .slice (some ⟨w.heap.size + 1, 0, none⟩) (n * n) (n * n)]) ∧ MatAt w' (w.heap.size + 1) n [] ∧ Below w.heap.size w w' := by
  have hsq := sq_le hn
  have hz : ∀ w' : World, MatAt (w'.alloc (.cells (madeCells #[.bool false] (n * n)) 4)) w'.heap.size n [] := fun w' => World.rowIs_made w' (.bool false) (n * n) 4
  have hec : (n : Int) * (n : Int) = ((n * n : Nat) : Int) := by simp
  have hmk := run_make_row' (P := Try.prog) 131 4 (.bool false) 1 Try.underlying131 Try.infoBool rfl .i64 .i64 (n * n) (by omega) (by omega)
  have HZ : Hid (∀ w' : World, MatAt (w'.alloc (.cells (madeCells #[.bool false] (n * n)) 4)) w'.heap.size n []) := hz
  clear hz
  generalize n * n = N at hec hmk HZ hsq ⊢
  go_enter Try.func112, Try.ntmps112
  go_wp2_with fail
  refine bodyPost_ret (v := .agg #[.int .i64 n, .slice (some ⟨w.heap.size + 1, 0, none⟩) N N]) (by simp [results, Try.results112, go_sem, *]) rfl ⟨rfl, ?_, below_two _ _ _⟩
  have hz := HZ.out (w.alloc (.cells #[.int .i64 n, .slice (some ⟨w.heap.size + 1, 0, none⟩) N N] 133))
  rw [World.size_alloc] at hz
  exact hz

set_option maxRecDepth 20000 in
set_option maxHeartbeats 1000000 in
theorem add_any (n : Nat) (hn : n ≤ 96) (A : List (Int × Int)) (p bl : Nat) (x y : Int) (w : World) (h : SetAt w p bl n A) :
    Calls Try.prog 110 #[.pointer (some ⟨p, 0, none⟩), .int .i64 x, .int .i64 y] w fun e w' => ∃ r, e = .returned r ∧ SetAt w' p bl n (A ++ [(x, y)]) ∧ Only bl w w' := by
  obtain ⟨c0, c1, hm, hne⟩ := h
  have HM : Hid (MatAt w bl n A ∧ p ≠ bl ∧ w.cell? ⟨p, 0, none⟩ = some (.int .i64 n) ∧ w.cell? ⟨p, 1, none⟩ = some (.slice (some ⟨bl, 0, none⟩) (n * n) (n * n))) := ⟨hm, hne, c0, c1⟩
  clear hm hne
  by_cases hin : 0 ≤ x ∧ x < n ∧ 0 ≤ y ∧ y < n
  · obtain ⟨h1, h2, h3, h4⟩ := hin
    obtain ⟨a, rfl⟩ := Int.eq_ofNat_of_zero_le h1
    obtain ⟨b, rfl⟩ := Int.eq_ofNat_of_zero_le h3
    have ha : a < n := by omega
    have hb : b < n := by omega
    have hq : a * n + b < n * n := by
      have : (a + 1) * n ≤ n * n := Nat.mul_le_mul_right n ha
      rw [Nat.add_mul] at this; omega
    have hsq := sq_le hn
    have e1 : (a : Int) * (n : Int) = ((a * n : Nat) : Int) := by simp
    have hqI : ((a * n : Nat) : Int) + (b : Int) = ((a * n + b : Nat) : Int) := by omega
    have r0 := HM.out.1.cell ha hb
    have z0 := HM.out.1.frozen (a * n + b)
    have s0 := HM.out.1.lt
    have HK : Hid (SetAt (w.setCell ⟨bl, a * n + b, none⟩ (.bool true)) p bl n (A ++ [((a : Int), (b : Int))]) ∧ Only bl w (w.setCell ⟨bl, a * n + b, none⟩ (.bool true))) := by
      obtain ⟨h1, h2, h3, h4⟩ := HM.out
      have ho := Only.setCell bl (a * n + b) (.bool true) w
      exact ⟨⟨ho.cell h3 h2, ho.cell h4 h2, h1.set ha hb, h2⟩, ho⟩
    generalize a * n + b = q at hq r0 z0 HK hqI
    generalize a * n = m at e1 hqI
    generalize n * n = N at hq hsq c1
    have hqN : (q : Int) < (N : Int) := by omega
    have hm0 : (m : Int) ≤ 9216 := by omega
    have hw1 : IntKind.i64.wrap (m : Int) = (m : Int) := by rw [IntKind.wrap_i64]; omega
    have hw2 : IntKind.i64.wrap (q : Int) = (q : Int) := by rw [IntKind.wrap_i64]; omega
    go_enter Try.func110, Try.ntmps110
    go_wp2_with fail
    refine wp_region_still_tail 13 (by kernel_rfl) (by kernel_rfl) ?_
    simp only [List.take_succ_cons, List.take_zero, List.drop_succ_cons, List.drop_zero]
    repeat still_step
    refine wpStill_nil ?_
    go_wp2_with fail
    exact bodyPost_end (v := .tuple #[]) (results_none rfl _ _ _) rfl ⟨_, rfl, HK.out.1.drew, HK.out.2.drew⟩
  · have HK : Hid (SetAt w p bl n (A ++ [(x, y)])) := ⟨HM.out.2.2.1, HM.out.2.2.2, HM.out.1.out hin, HM.out.2.1⟩
    cases h1 : decide (0 ≤ x)
    · go_enter Try.func110, Try.ntmps110
      go_wp2_with fail
      exact bodyPost_end (v := .tuple #[]) (results_none rfl _ _ _) rfl ⟨_, rfl, HK.out, Only.refl _ _⟩
    · cases h2 : decide (x < (n : Int))
      · go_enter Try.func110, Try.ntmps110
        go_wp2_with fail
        exact bodyPost_end (v := .tuple #[]) (results_none rfl _ _ _) rfl ⟨_, rfl, HK.out, Only.refl _ _⟩
      · cases h3 : decide (0 ≤ y)
        · go_enter Try.func110, Try.ntmps110
          go_wp2_with fail
          exact bodyPost_end (v := .tuple #[]) (results_none rfl _ _ _) rfl ⟨_, rfl, HK.out, Only.refl _ _⟩
        · have h4 : decide (y < (n : Int)) = false := by
            rw [decide_eq_false_iff_not]
            simp only [decide_eq_true_eq] at h1 h2 h3
            exact fun h4 => hin ⟨h1, h2, h3, h4⟩
          go_enter Try.func110, Try.ntmps110
          go_wp2_with fail
          exact bodyPost_end (v := .tuple #[]) (results_none rfl _ _ _) rfl ⟨_, rfl, HK.out, Only.refl _ _⟩

end Go.Proofs.Ytomijmikkbhgmab

namespace Go.Proofs.Ytomijmikkbhgmab
open Go.RowKit

/-- A row of numbers of the call's own, in block bT; the rest of the world stays. -/
structure Row (w wr : World) (bT n : Nat) (g : Nat → Int) : Prop where
  hb : Below w.heap.size w wr
  row : wr.rowIs bT 3 n (fun i => .int .i64 (g i))
  n1 : w.heap.size ≤ bT

theorem Row.set {w wr : World} {bT n : Nat} {g h : Nat → Int} (hr : Row w wr bT n g) (i : Nat) (x : Int) (he : ∀ j, j < n → (if j = i then x else g j) = h j) : Row w (wr.setCell ⟨bT, i, none⟩ (.int .i64 x)) bT n h := by
  refine ⟨hr.hb.setCell hr.n1 _, (hr.row.set i _).congr fun j hj => ?_, hr.n1⟩
  rw [← he j hj]
  by_cases e : j = i
  · simp [e]
  · simp [e]
theorem Row.congr {w wr : World} {bT n : Nat} {g h : Nat → Int} (hr : Row w wr bT n g) (he : ∀ j, j < n → g j = h j) : Row w wr bT n h :=
  ⟨hr.hb, hr.row.congr fun j hj => by rw [he j hj], hr.n1⟩
theorem Row.alloc {w wr : World} {bT n : Nat} {g : Nat → Int} (h : Row w wr bT n g) (o : Obj) : Row w (wr.alloc o) bT n g := ⟨h.hb.alloc h.hb.size _, h.row.alloc _, h.n1⟩
theorem Row.drew {w wr : World} {bT n : Nat} {g : Nat → Int} (h : Row w wr bT n g) : Row w wr.drew bT n g := ⟨h.hb.drew, h.row, h.n1⟩

theorem Row.drewN {w wr : World} {bT n : Nat} {g : Nat → Int} (h : Row w wr bT n g) (k : Nat) : Row w (wr.drewN k) bT n g := ⟨⟨h.hb.os, h.hb.tape, h.hb.output, h.hb.size, h.hb.block⟩, h.row, h.n1⟩

/-- What is counted, when from f the arrows to those below t are. -/
def inG (A : List (Int × Int)) (f t j : Nat) : Int := if j < t then (inTo A (f + 1) j : Nat) else (inTo A f j : Nat)

theorem inG_ge (A : List (Int × Int)) (f t : Nat) : inG A f t t = (inTo A f t : Nat) := by unfold inG; rw [if_neg (by omega)]

set_option maxRecDepth 20000 in
set_option maxHeartbeats 2000000 in
theorem countInto_any (n : Nat) (hn : n ≤ 96) (A : List (Int × Int)) (p bl : Nat) (w : World) (h : SetAt w p bl n A) :
    Calls Try.prog 115 #[.pointer (some ⟨p, 0, none⟩)] w fun e w' => e = .returned (.slice (some ⟨w.heap.size, 0, none⟩) n n) ∧ Row w w' w.heap.size n (fun j => (inTo A n j : Nat)) := by
  have HS : Hid (SetAt w p bl n A) := h
  obtain ⟨c0, c1, _, _⟩ := h
  have hsq := sq_le hn
  have hmk := run_make_row' (P := Try.prog) 39 3 (.int .i64 0) 8 Try.underlying39 Try.info3 rfl .i64 .i64 n (by omega) (by omega)
  have HG0 : Hid (Row w (w.alloc (.cells (madeCells #[.int .i64 0] n) 3)) w.heap.size n (inG A 0 0)) := ⟨below_alloc _ _, World.rowIs_made w (.int .i64 0) n 3, Nat.le_refl _⟩
  go_enter Try.func115, Try.ntmps115
  go_wp2_with fail
  clear hmk c0 c1
  go_loopw [4] (fun i wr => ∃ k : Nat, k ≤ n ∧ i = .int .i64 k ∧ Hid (Row w wr w.heap.size n (inG A k 0))) (fun i _ => n - (intOf i).toNat)
  case atStart => exact ⟨0, Nat.zero_le _, rfl, HG0.out⟩
  case round =>
    clear HG0
    obtain ⟨k, hk, rfl, hg⟩ := hrel
    obtain ⟨c0, c1, _, _⟩ := HS.out.keep hg.out.hb
    have HG := hg
    by_cases hlt : k < n
    · have hkI : (k : Int) < (n : Int) := by omega
      clear hg
      go_wp2_with fail
      clear c0 c1
      go_loopw [5] (fun i wr => ∃ t : Nat, t ≤ n ∧ i = .int .i64 t ∧ Hid (Row w wr w.heap.size n (inG A k t))) (fun i _ => n - (intOf i).toNat)
      case atStart => exact ⟨0, Nat.zero_le _, rfl, HG.out⟩
      case round =>
        clear HG
        obtain ⟨t, ht, rfl, hg⟩ := hrel
        obtain ⟨c0, c1, hm, _⟩ := HS.out.keep hg.out.hb
        have HG := hg
        by_cases htn : t < n
        · have htI : (t : Int) < (n : Int) := by omega
          have hq : k * n + t < n * n := by
            have : (k + 1) * n ≤ n * n := Nat.mul_le_mul_right n hlt
            rw [Nat.add_mul] at this; omega
          have e1 : (k : Int) * (n : Int) = ((k * n : Nat) : Int) := by simp
          have hqI : ((k * n : Nat) : Int) + (t : Int) = ((k * n + t : Nat) : Int) := by omega
          have r0 := hm.cell hlt htn
          have t0 := hg.out.row.cell htn
          have z0 := hg.out.row.frozen t
          have s0 := hg.out.row.lt
          rw [inG_ge] at t0
          have hle := inTo_le A k t
          generalize k * n + t = q at hq hqI r0
          generalize k * n = m at e1 hqI
          generalize n * n = N at hq hsq c1
          have hqN : (q : Int) < (N : Int) := by omega
          have hm0 : (m : Int) ≤ 9216 := by omega
          have hw1 : IntKind.i64.wrap (m : Int) = (m : Int) := by rw [IntKind.wrap_i64]; omega
          have hw2 : IntKind.i64.wrap (q : Int) = (q : Int) := by rw [IntKind.wrap_i64]; omega
          clear hg hm
          cases hab : arwB A k t
          · rw [hab] at r0
            have HG2 : Hid (Row w wr w.heap.size n (inG A k (t + 1))) := HG.out.congr fun j hj => by
              unfold inG
              by_cases e : j = t
              · subst e; rw [if_neg (by omega), if_pos (by omega), inTo_no hab]
              · by_cases e2 : j < t
                · rw [if_pos e2, if_pos (by omega)]
                · rw [if_neg e2, if_neg (by omega)]
            clear HG
            go_wp2_with fail
            go_quiet (fail)
            go_wp2_with fail
            go_roundw
            case measure => simp [intOf]; omega
            case rel => exact ⟨t + 1, by omega, by go_num, HG2.out.drewN _⟩
          · rw [hab] at r0
            have HG2 : Hid (∀ nq, Row w ((wr.drewN nq).setCell ⟨w.heap.size, t, none⟩ (.int .i64 ((inTo A k t : Nat) + 1))) w.heap.size n (inG A k (t + 1))) := fun nq => (HG.out.drewN nq).set t _ fun j hj => by
              unfold inG
              by_cases e : j = t
              · subst e; rw [if_pos rfl, if_pos (by omega), inTo_yes hab]; simp
              · rw [if_neg e]
                by_cases e2 : j < t
                · rw [if_pos e2, if_pos (by omega)]
                · rw [if_neg e2, if_neg (by omega)]
            clear HG
            generalize inTo A k t = c at t0 HG2 hle
            go_wp2_with fail
            go_quiet (fail)
            go_wp2_with fail
            go_roundw
            case measure => simp [intOf]; omega
            case rel => exact ⟨t + 1, by omega, by go_num, HG2.out _⟩
        · have HG2 : Hid (Row w wr w.heap.size n (inG A (k + 1) 0)) := HG.out.congr fun j hj => by unfold inG; rw [if_pos (by omega), if_neg (by omega)]
          have htI : (n : Int) ≤ (t : Int) := by omega
          clear HG hg hm
          go_wp2_with fail
          go_roundw
          case measure => simp [intOf]; omega
          case rel => exact ⟨k + 1, by omega, by go_num, HG2.out⟩
    · have hkI : (n : Int) ≤ (k : Int) := by omega
      have HG2 : Hid (Row w wr w.heap.size n (fun j => (inTo A n j : Nat))) := HG.out.congr fun j hj => by
        have : k = n := by omega
        subst this
        unfold inG; rw [if_neg (by omega)]
      clear HG hg
      go_wp2_with fail
      go_ret
      exact ⟨rfl, HG2.out⟩

end Go.Proofs.Ytomijmikkbhgmab

namespace Go.Proofs.Ytomijmikkbhgmab
open Go.RowKit

theorem Row.grown {w wr w1 : World} {bT n : Nat} {g : Nat → Int} {row : Option Nat} (h : Row w wr bT n g) (hg : wr.grownBy w1 row) (hr : ∀ k, row = some k → bT < k) : Row w w1 bT n g :=
  ⟨Below.grown h.hb hg h.hb.size (fun k e => by have := hr k e; have := h.n1; omega), h.row.of_block (hg.block bT h.row.lt (fun e => by have := hr bT e.symm; omega)), h.n1⟩

/-- A list of numbers that the call itself makes. -/
def IntRow (B : Nat) (w : World) (v : Value) (l : List Int) : Prop := w.ownsRow B 3 1 v l.length (l.map (Value.int .i64))

theorem IntRow.form {B : Nat} {w : World} {v : Value} {l : List Int} (h : IntRow B w v l) : ∃ ao b cap, v = .slice ao l.length cap ∧ (l ≠ [] → ao = some ⟨b, 0, none⟩) ∧ B ≤ b ∧ ∀ k x, l[k]? = some x → w.cell? ⟨b, k, none⟩ = some (.int .i64 x) := by
  rcases h.2 with ⟨rfl, hn⟩ | ⟨g, cap, cur, rfl, hg, hh, _⟩
  · have : l = [] := List.eq_nil_of_length_eq_zero hn
    subst this
    exact ⟨none, B, 0, rfl, fun h => absurd rfl h, Nat.le_refl _, fun k x h => by simp at h⟩
  · refine ⟨_, g, cap, rfl, fun _ => rfl, hg, fun k x hx => ?_⟩
    have := h.cells (g := g) rfl k (.int .i64 x) (by rw [List.getElem?_map, hx]; rfl)
    rw [Addr.add_lit] at this
    simpa using this

theorem IntRow.setCell {B : Nat} {w : World} {v : Value} {l : List Int} (h : IntRow B w v l) {b o : Nat} (hb : b < B) (u : Value) : IntRow B (w.setCell ⟨b, o, none⟩ u) v l :=
  own_other h (fun g hg => Below.heap_setCell w ⟨b, o, none⟩ u g (by have := (h.lt g hg).1; simp; omega))

/-- The counts, when of the event d of the row F the arrows to those below t have gone. -/
def kG (A : List (Int × Int)) (n : Nat) (F : List Int) (d t j : Nat) : Int := (cnt A n (F.take (if j < t then d + 1 else d)) j : Nat)
theorem kG_ge (A : List (Int × Int)) (n : Nat) (F : List Int) (d t : Nat) : kG A n F d t t = (cnt A n (F.take d) t : Nat) := by unfold kG; rw [if_neg (by omega)]
theorem kG_same {A : List (Int × Int)} {n : Nat} {F : List Int} {d t : Nat} (h : cnt A n (F.take (d + 1)) t = cnt A n (F.take d) t) (j : Nat) : kG A n F d t j = kG A n F d (t + 1) j := by
  unfold kG
  by_cases e : j = t
  · subst e; rw [if_neg (by omega), if_pos (by omega), h]
  · by_cases e2 : j < t
    · rw [if_pos e2, if_pos (by omega)]
    · rw [if_neg e2, if_neg (by omega)]
theorem kG_less {A : List (Int × Int)} {n : Nat} {F : List Int} {d t : Nat} (j : Nat) : (if j = t then ((cnt A n (F.take (d + 1)) t : Nat) : Int) else kG A n F d t j) = kG A n F d (t + 1) j := by
  unfold kG
  by_cases e : j = t
  · subst e; rw [if_pos rfl, if_pos (by omega)]
  · rw [if_neg e]
    by_cases e2 : j < t
    · rw [if_pos e2, if_pos (by omega)]
    · rw [if_neg e2, if_neg (by omega)]
theorem kG_more {A : List (Int × Int)} {n : Nat} {F : List Int} {d t : Nat} {x : Int} (hd : d < F.length) (j : Nat) : kG A n F d t j = kG A n (F ++ [x]) d t j := by
  unfold kG
  rw [List.take_append_of_le_length (by split <;> omega)]

set_option maxRecDepth 20000 in
set_option maxHeartbeats 4000000 in
theorem hasCircle_any (n : Nat) (hn : n ≤ 96) (A : List (Int × Int)) (p bl : Nat) (w : World) (h : SetAt w p bl n A) :
    Calls Try.prog 101 #[.pointer (some ⟨p, 0, none⟩)] w fun e w' => ∃ b : Bool, e = .returned (.bool b) ∧ (b = true ↔ Cyc n A) ∧ Below w.heap.size w w' := by
  have HS : Hid (SetAt w p bl n A) := h
  clear h
  have hsq := sq_le hn
  obtain ⟨i0, hi, hz0, hz1, hz2⟩ := info_parts Try.info3
  have HI : Hid (Try.prog.info? 3 = some i0 ∧ i0.zero = some (.int .i64 0) ∧ i0.size = 1 ∧ i0.bytes = 8) := ⟨hi, hz0, hz1, hz2⟩
  clear hi hz0 hz1 hz2
  go_enter Try.func101, Try.ntmps101
  go_wp2_with fail
  refine (countInto_any n hn A p bl w HS.out).mono ?_
  rintro e w1 ⟨rfl, hrow⟩
  have HR : Hid (Row w w1 w.heap.size n (fun j => (inTo A n j : Nat))) := hrow
  clear hrow
  go_wp2_with fail
  go_loopw [4, 13] (fun u i wr => ∃ k : Nat, k ≤ n ∧ i = .int .i64 k ∧ Hid (IntRow (w.heap.size + 1) wr u (noneIn A n k)) ∧ Hid (Row w wr w.heap.size n (fun j => (inTo A n j : Nat)))) (fun _ i _ => n - (intOf i).toNat)
  case atStart => exact ⟨0, Nat.zero_le _, rfl, World.ownsRow_nil _ _ _ _, HR.out⟩
  case round =>
    clear HR
    obtain ⟨k, hk, rfl, hown, hrow⟩ := hrel
    have HO := hown
    have HR := hrow
    by_cases hlt : k < n
    · have hkI : (k : Int) < (n : Int) := by omega
      have t0 := hrow.out.row.cell hlt
      have s0 := hrow.out.row.lt
      have hln := noneIn_len A n k
      clear hown hrow
      by_cases hz : inTo A n k = 0
      · have HN : Hid (noneIn A n (k + 1) = noneIn A n k ++ [(k : Int)]) := noneIn_yes hz
        rw [hz] at t0
        generalize noneIn A n k = xs at HO hln HN
        go_wp2_with (at_builtin; refine append_new _ rfl _ _ 39 rfl (w.heap.size + 1) 3 i0 (.int .i64 0) 1 8 Try.underlying39 HI.out.1 HI.out.2.1 HI.out.2.2.1 HI.out.2.2.2 rfl (by decide) _ xs.length (xs.map (Value.int .i64)) rfl (HO.out.alloc _) (some ⟨wr.heap.size, 0, none⟩) 1 1 [.int .i64 k] rfl (fun h => by cases h) rfl (fun ad had => by cases had; exact new_one rfl) (by simp [Value.oneCell']) (by unfold maxLen; omega) (by omega) (by simp; omega) ?_)
        intro u' w2 hown' hgrow _
        have HO2 : Hid (IntRow (w.heap.size + 1) w2 u' (noneIn A n (k + 1))) := by rw [HN.out]; exact own_snoc hown'
        have HR2 : Hid (Row w w2 w.heap.size n (fun j => (inTo A n j : Nat))) := (HR.out.alloc _).grown hgrow (fun kk e => by have := (HO.out.lt kk e).1; omega)
        clear hgrow hown' HO HR
        go_wp2_with fail
        go_roundw
        case measure => simp [intOf]; omega
        case rel => exact ⟨k + 1, by omega, by go_num, HO2.out, HR2.out⟩
      · have HN : Hid (noneIn A n (k + 1) = noneIn A n k) := noneIn_no hz
        have hz2 : (((inTo A n k : Nat) : Int) == 0) = false := by simp; exact hz
        go_wp2_with fail
        go_roundw
        case measure => simp [intOf]; omega
        case rel => exact ⟨k + 1, by omega, by go_num, by rw [HN.out]; exact HO.out, HR.out⟩
    · have hkn : k = n := by omega
      subst hkn
      have HK : Hid (Kahn k A (noneIn A k k) 0 0) := Kahn.start k A
      have HR2 : Hid (Row w wr w.heap.size k (kG A k (noneIn A k k) 0 0)) := HR.out.congr fun j hj => by unfold kG; rw [if_neg (by omega), List.take_zero, cnt_nil]
      generalize noneIn A k k = F0 at HO HK HR2
      clear hown hrow HR hlt hk
      go_wp2_with fail
      go_loopw [4, 7] (fun u i wr => ∃ (d : Nat) (F : List Int) (ao : Option Addr) (cap : Nat), d ≤ F.length ∧ F.length ≤ k ∧ i = .int .i64 d ∧ u = .slice ao F.length cap ∧ Hid (Kahn k A F d 0) ∧ Hid (IntRow (w.heap.size + 1) wr (.slice ao F.length cap) F) ∧ Hid (Row w wr w.heap.size k (kG A k F d 0))) (fun _ i _ => k - (intOf i).toNat)
      case atStart =>
        obtain ⟨ao, b, cap, hv, _⟩ := HO.out.form
        exact ⟨0, F0, ao, cap, Nat.zero_le _, HK.out.len, rfl, hv, HK.out, by rw [← hv]; exact HO.out, HR2.out⟩
      case round =>
        clear HK HR2 HO
        obtain ⟨d, F, ao, cap, hd, hF, rfl, rfl, hkahn, hown, hrow⟩ := hrel
        have HK := hkahn
        have HO := hown
        have HR := hrow
        clear hkahn hown hrow
        by_cases hdF : d < F.length
        · obtain ⟨x, hx⟩ := get_of_lt hdF
          obtain ⟨e, he, rfl⟩ := HK.out.nat x (List.mem_of_getElem? hx)
          have HX : Hid (F[d]? = some (e : Int)) := hx
          have hdI : (d : Int) < (F.length : Int) := by omega
          clear hx
          go_wp2_with fail
          clear hdI
          go_loopw [4, 8] (fun u i wr => ∃ (t : Nat) (F : List Int) (ao : Option Addr) (cap : Nat), t ≤ k ∧ d < F.length ∧ F.length ≤ k ∧ i = .int .i64 t ∧ u = .slice ao F.length cap ∧ Hid (F[d]? = some (e : Int)) ∧ Hid (Kahn k A F d t) ∧ Hid (IntRow (w.heap.size + 1) wr (.slice ao F.length cap) F) ∧ Hid (Row w wr w.heap.size k (kG A k F d t))) (fun _ i _ => k - (intOf i).toNat)
          case atStart => exact ⟨0, F, ao, cap, Nat.zero_le _, hdF, hF, rfl, rfl, HX.out, HK.out, HO.out, HR.out⟩
          case round =>
            clear HK HO HR HX hdF hF hd
            obtain ⟨t, F, ao, cap, ht, hdF, hF, rfl, rfl, hx, hkahn, hown, hrow⟩ := hrel
            have HK := hkahn
            have HO := hown
            have HR := hrow
            have HX := hx
            obtain ⟨c0, c1, hm, _⟩ := HS.out.keep hrow.out.hb
            by_cases htk : t < k
            · have htI : (t : Int) < (k : Int) := by omega
              have hdI : (d : Int) < (F.length : Int) := by omega
              obtain ⟨aoF, bF, capF, hvF, haF, hbF, hcF⟩ := hown.out.form
              simp only [Value.slice.injEq] at hvF
              obtain ⟨rfl, _, rfl⟩ := hvF
              obtain rfl := haF (ne_nil hdF)
              have f0 := hcF d _ hx.out
              have hq : e * k + t < k * k := by
                have : (e + 1) * k ≤ k * k := Nat.mul_le_mul_right k he
                rw [Nat.add_mul] at this; omega
              have e1 : (e : Int) * (k : Int) = ((e * k : Nat) : Int) := by simp
              have hqI : ((e * k : Nat) : Int) + (t : Int) = ((e * k + t : Nat) : Int) := by omega
              have r0 := hm.cell he htk
              have t0 := hrow.out.row.cell htk
              have z0 := hrow.out.row.frozen t
              have s0 := hrow.out.row.lt
              rw [kG_ge] at t0
              have hle := cnt_le A k (F.take d) t
              generalize e * k + t = q at hq hqI r0
              generalize e * k = m at e1 hqI
              generalize k * k = N at hq hsq c1
              have hqN : (q : Int) < (N : Int) := by omega
              have hm0 : (m : Int) ≤ 9216 := by omega
              have hw1 : IntKind.i64.wrap (m : Int) = (m : Int) := by rw [IntKind.wrap_i64]; omega
              have hw2 : IntKind.i64.wrap (q : Int) = (q : Int) := by rw [IntKind.wrap_i64]; omega
              clear hown hrow hm hkahn hcF haF hx
              cases hab : arwB A e t
              · rw [hab] at r0
                obtain ⟨hk2, hc2⟩ := HK.out.no HX.out hab
                have HK2 : Hid (Kahn k A F d (t + 1)) := hk2
                have HR2 : Hid (Row w wr w.heap.size k (kG A k F d (t + 1))) := HR.out.congr fun j _ => kG_same hc2 j
                clear hk2 hc2 HR HK
                go_wp2_with fail
                go_quiet (fail)
                go_wp2_with fail
                go_roundw
                case measure => simp [intOf]; omega
                case rel => exact ⟨t + 1, F, _, cap, by omega, hdF, hF, by go_num, rfl, HX.out, HK2.out, HO.out, HR2.out.drewN _⟩
              · rw [hab] at r0
                obtain ⟨hc1, hk1, hk0⟩ := HK.out.more HX.out htk hab
                rw [hc1] at t0
                have HR2 : Hid (∀ nq, Row w ((wr.drewN nq).setCell ⟨w.heap.size, t, none⟩ (.int .i64 (cnt A k (F.take (d + 1)) t : Nat))) w.heap.size k (kG A k F d (t + 1))) := fun nq => (HR.out.drewN nq).set t _ fun j _ => kG_less j
                have HO2 : Hid (∀ nq, IntRow (w.heap.size + 1) ((wr.drewN nq).setCell ⟨w.heap.size, t, none⟩ (.int .i64 (cnt A k (F.take (d + 1)) t : Nat))) (.slice (some ⟨bF, 0, none⟩) F.length cap) F) := fun nq => IntRow.setCell (w := wr.drewN nq) HO.out (by omega) _
                have HK1 : Hid (cnt A k (F.take (d + 1)) t ≠ 0 → Kahn k A F d (t + 1)) := hk1
                have HK0 : Hid (cnt A k (F.take (d + 1)) t = 0 → Kahn k A (F ++ [(t : Int)]) d (t + 1)) := hk0
                have hle2 : cnt A k (F.take (d + 1)) t + 1 ≤ k := by omega
                clear hc1 hk1 hk0 hle HR HO HK
                generalize cnt A k (F.take (d + 1)) t = c at t0 HR2 HO2 HK1 HK0 hle2
                rw [show (((c + 1 : Nat) : Int)) = (c : Int) + 1 by omega] at t0
                cases c with
                | zero =>
                  have HK2 : Hid (Kahn k A (F ++ [(t : Int)]) d (t + 1)) := HK0.out rfl
                  have hl2 : F.length + 1 ≤ k := by have := HK2.out.len; simpa using this
                  go_wp2_with fail
                  go_quiet (fail)
                  go_wp2_with (at_builtin; refine append_new _ rfl _ _ 39 rfl (w.heap.size + 1) 3 i0 (.int .i64 0) 1 8 Try.underlying39 HI.out.1 HI.out.2.1 HI.out.2.2.1 HI.out.2.2.2 rfl (by decide) _ F.length (F.map (Value.int .i64)) rfl ((HO2.out _).alloc _) (some ⟨wr.heap.size, 0, none⟩) 1 1 [.int .i64 t] rfl (fun h => by cases h) rfl (fun ad had => by cases had; exact new_one (by simp)) (by simp [Value.oneCell']) (by unfold maxLen; omega) (by omega) (by simp; omega) ?_)
                  intro u' w2 hown' hgrow _
                  have HO3 : Hid (IntRow (w.heap.size + 1) w2 u' (F ++ [(t : Int)])) := own_snoc hown'
                  have HR3 : Hid (Row w w2 w.heap.size k (kG A k (F ++ [(t : Int)]) d (t + 1))) := (((HR2.out _).alloc _).grown hgrow (fun kk e => by have := ((HO2.out 0).lt kk e).1; omega)).congr fun j _ => kG_more hdF j
                  have HX3 : Hid ((F ++ [(t : Int)])[d]? = some (e : Int)) := by show (F ++ [(t : Int)])[d]? = some (e : Int); rw [List.getElem?_append_left hdF]; exact HX.out
                  clear hgrow hown' HR2 HO2 HK0 HK1
                  obtain ⟨ao3, b3, cap3, hv3, _⟩ := HO3.out.form
                  have hlen3 : (F ++ [(t : Int)]).length = F.length + 1 := by simp
                  subst hv3
                  go_wp2_with fail
                  go_roundw
                  case measure => simp [intOf]; omega
                  case rel => exact ⟨t + 1, F ++ [(t : Int)], ao3, cap3, by omega, by omega, by omega, by go_num, rfl, HX3.out, HK2.out, HO3.out, HR3.out⟩
                | succ c =>
                  have HK2 : Hid (Kahn k A F d (t + 1)) := HK1.out (by omega)
                  have hc0 : (((c + 1 : Nat) : Int) == 0) = false := by simp; omega
                  go_wp2_with fail
                  go_quiet (fail)
                  go_wp2_with fail
                  go_roundw
                  case measure => simp [intOf]; omega
                  case rel => exact ⟨t + 1, F, _, cap, by omega, hdF, hF, by go_num, rfl, HX.out, HK2.out, HO2.out _, HR2.out _⟩
            · have htk2 : t = k := by omega
              subst htk2
              have HK2 : Hid (Kahn t A F (d + 1) 0) := HK.out.next
              have HR2 : Hid (Row w wr w.heap.size t (kG A t F (d + 1) 0)) := HR.out.congr fun j hj => by unfold kG; rw [if_pos hj, if_neg (by omega)]
              clear hown hrow hm hkahn HK HR
              go_wp2_with fail
              go_roundw
              case measure => simp [intOf]; omega
              case rel => exact ⟨d + 1, F, ao, cap, by omega, hF, by go_num, rfl, HK2.out, HO.out, HR2.out⟩
        · have hL := HK.out.last (by omega)
          have hb := HR.out.hb
          obtain ⟨c0, c1, hm, _⟩ := HS.out.keep hb
          have hdI : (F.length : Int) ≤ (d : Int) := by omega
          have HL : Hid (decide ((F.length : Int) < (k : Int)) = true ↔ Cyc k A) := hL
          clear hL hm
          go_wp2_with fail
          go_ret
          exact ⟨_, rfl, by rw [← HL.out]; simp, hb⟩

end Go.Proofs.Ytomijmikkbhgmab

namespace Go.Proofs.Ytomijmikkbhgmab
open Go.RowKit

def fen1 (a b : Evt) (z : Ins) : Bool := z.op == 4 && (z.mode == 0 || (z.mode == 1 && (a.kind == 0 && b.kind == 0)) || (z.mode == 2 && (a.kind == 1 && b.kind == 1)))
/-- Does a fence between two events of a thread keep them? -/
def fenB (l : List Ins) (a b : Evt) : Bool := ((l.take b.place.toNat).drop (a.place.toNat + 1)).any (fen1 a b)

theorem take_at {α : Type} {l : List α} {n k : Nat} {x : α} (h : l[k]? = some x) (hk : k < n) : (l.take n)[k]? = some x := by rw [List.getElem?_take_of_lt hk]; exact h

theorem below_three (w : World) (o1 o2 o3 : Obj) : Below w.heap.size w (((w.alloc o1).alloc o2).alloc o3) := (below_two w o1 o2).alloc (by simp only [World.size_alloc]; omega) _

end Go.Proofs.Ytomijmikkbhgmab
