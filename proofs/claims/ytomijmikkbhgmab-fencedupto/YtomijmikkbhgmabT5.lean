import Derived.Test.YtomijmikkbhgmabT1
import Derived.Test.YtomijmikkbhgmabT4
import Derived.Deep.QuietTactic
import Derived.BigQuiet
import Derived.Deep.RegionWith
import Derived.Deep.OwnRows
import Derived.Deep.CutRange
import Derived.Deep.RegionLaw
import Derived.StillTailTactics
namespace Go.Proofs.Ytomijmikkbhgmab
open Go.RowKit

/-- Nothing has turned but block B, and what is new. -/
structure Only (B : Nat) (w w' : World) : Prop where
  os : w'.os = w.os
  tape : w'.tape = w.tape
  output : w'.output = w.output
  size : w.heap.size ≤ w'.heap.size
  block : ∀ k, k < w.heap.size → k ≠ B → w'.heap[k]? = w.heap[k]?

theorem Only.refl (B : Nat) (w : World) : Only B w w := ⟨rfl, rfl, rfl, Nat.le_refl _, fun _ _ _ => rfl⟩
theorem Only.trans {B : Nat} {a b c : World} (h : Only B a b) (k : Only B b c) : Only B a c :=
  ⟨k.os.trans h.os, k.tape.trans h.tape, k.output.trans h.output, Nat.le_trans h.size k.size, fun i hi hn => (k.block i (Nat.lt_of_lt_of_le hi h.size) hn).trans (h.block i hi hn)⟩
theorem Only.of_below {B : Nat} {w w' : World} (h : Below w.heap.size w w') : Only B w w' := ⟨h.os, h.tape, h.output, h.size, fun k hk _ => h.block k hk⟩
theorem Only.below {B n : Nat} {w w' : World} (h : Only B w w') (h1 : n ≤ B) (h2 : n ≤ w.heap.size) : Below n w w' := ⟨h.os, h.tape, h.output, h.size, fun k hk => h.block k (by omega) (by omega)⟩
theorem Only.grown {B n : Nat} {w w' : World} {row : Option Nat} (hg : w.grownBy w' row) (hr : ∀ k, row = some k → n ≤ k) {a : World} (h : Only B a w) (hn : a.heap.size ≤ n) : Only B a w' :=
  ⟨hg.os.trans h.os, hg.tape.trans h.tape, hg.output.trans h.output, Nat.le_trans h.size hg.size, fun k hk hB => (hg.block k (Nat.lt_of_lt_of_le hk h.size) (fun e => by have := hr k e.symm; omega)).trans (h.block k hk hB)⟩
theorem Only.cell {B : Nat} {w w' : World} (h : Only B w w') {b off : Nat} {u : Value} (hc : w.cell? ⟨b, off, none⟩ = some u) (hn : b ≠ B) : w'.cell? ⟨b, off, none⟩ = some u :=
  (World.cell?_of_block (w := w) (h.block b (World.block_lt_of_cell? w _ hc) hn)).trans hc

/-- .. and its block is new too, be it empty. -/
def IntOwn (B : Nat) (w : World) (v : Value) (l : List Int) : Prop := IntNew B w v l ∧ ∀ g, v.ownBlock = some g → B ≤ g ∧ g < w.heap.size
theorem owns_own {w : World} {base : Nat} {e : TypeId} {v : Value} {l : List Int} (h : w.ownsRow base e 1 v l.length (l.map (Value.int .i64))) : IntOwn base w v l := ⟨owns_int h, fun g hg => h.lt g hg⟩

theorem IntAt.only {B : Nat} {w w' : World} {v : Value} {l : List Int} {ao : Option Addr} {b off cap : Nat} (h : SlAt w 1 IntC v l ao b off cap) (ho : Only B w w') (hn : b ≠ B) : SlAt w' 1 IntC v l ao b off cap :=
  ⟨h.hv, h.ha, h.hn, fun k x hx => ho.cell (h.hc k x hx) hn⟩

theorem erase_take {l : List Int} {at' : Nat} (_h : at' < l.length) : l.eraseIdx at' = l.take at' ++ l.drop (at' + 1) := List.eraseIdx_eq_take_drop_succ ..

end Go.Proofs.Ytomijmikkbhgmab

namespace Go.Proofs.Ytomijmikkbhgmab
open Go.RowKit

theorem Try.infoInts : (Try.prog.info? 39).map (fun i => (i.zero, i.size, i.bytes)) = some (some (.slice none 0 0), 1, 24) := by kernel_rfl

def LC (w : World) (b off : Nat) (x : List Int) : Prop := ∃ u, w.cell? ⟨b, off, none⟩ = some u ∧ IntAt w u x
def LstAt (w : World) (v : Value) (L : List (List Int)) : Prop := ∃ ao b off cap, SlAt w 1 LC v L ao b off cap

theorem lc_keeps : Keeps LC := fun _ _ _ _ _ hb ⟨u, h1, h2⟩ => ⟨u, keep_cell hb h1, h2.keep hb⟩
theorem LstAt.keep {w w' : World} {v : Value} {L : List (List Int)} (h : LstAt w v L) (hb : Below w.heap.size w w') : LstAt w' v L := by
  obtain ⟨ao, b, off, cap, h⟩ := h
  exact ⟨ao, b, off, cap, h.keep lc_keeps hb⟩

structure ExeAt (w : World) (vf vo : Value) (x : Exe) : Prop where
  f : IntAt w vf x.from'
  o : LstAt w vo x.order
theorem ExeAt.keep {w w' : World} {vf vo : Value} {x : Exe} (h : ExeAt w vf vo x) (hb : Below w.heap.size w w') : ExeAt w' vf vo x := ⟨h.f.keep hb, h.o.keep hb⟩

theorem IntAt.form {w : World} {v : Value} {l : List Int} (h : IntAt w v l) : ∃ ao cap, v = .slice ao l.length cap := by
  obtain ⟨ao, b, off, cap, h⟩ := h
  exact ⟨ao, cap, h.hv⟩

theorem IntAt.other {w w' : World} {v : Value} {l : List Int} (h : IntAt w v l) (hs : ∀ b : Nat, v.ownBlock = some b → w'.heap[b]? = w.heap[b]?) : IntAt w' v l := by
  obtain ⟨ao, b, off, cap, hv, ha, hn, hc⟩ := h
  refine ⟨ao, b, off, cap, hv, ha, hn, fun k x hx => ?_⟩
  have hk : k < l.length := (List.getElem?_eq_some_iff.1 hx).1
  exact cell_heap (hs b (by rw [hv, ha (ne_nil hk)]; rfl)) (hc k x hx)

/-- A slice of numbers with room enough. -/
def IntCap (w : World) (v : Value) (l : List Int) : Prop := ∃ ao b off cap, SlAt w 1 IntC v l ao b off cap ∧ l.length ≤ cap
theorem IntNew.cap {B : Nat} {w : World} {v : Value} {l : List Int} (h : IntNew B w v l) : IntCap w v l := by
  obtain ⟨ao, b, off, cap, h1, _, h2⟩ := h
  exact ⟨ao, b, off, cap, h1, h2⟩
theorem IntCap.at' {w : World} {v : Value} {l : List Int} (h : IntCap w v l) : IntAt w v l := by
  obtain ⟨ao, b, off, cap, h1, _⟩ := h
  exact ⟨ao, b, off, cap, h1⟩
theorem IntCap.keep {w w' : World} {v : Value} {l : List Int} (h : IntCap w v l) (hb : Below w.heap.size w w') : IntCap w' v l := by
  obtain ⟨ao, b, off, cap, h1, h2⟩ := h
  exact ⟨ao, b, off, cap, h1.keep intC_keeps hb, h2⟩
theorem intCap_nil (w : World) : IntCap w (.slice none 0 0) [] := ⟨none, 0, 0, 0, ⟨rfl, fun h => absurd rfl h, fun _ => ⟨rfl, rfl⟩, fun k x h => by simp at h⟩, Nat.le_refl _⟩

theorem IntCap.other {w w' : World} {v : Value} {l : List Int} (h : IntCap w v l) (hs : ∀ b : Nat, v.ownBlock = some b → w'.heap[b]? = w.heap[b]?) : IntCap w' v l := by
  obtain ⟨ao, b, off, cap, ⟨hv, ha, hn, hc⟩, hl⟩ := h
  refine ⟨ao, b, off, cap, ⟨hv, ha, hn, fun k x hx => ?_⟩, hl⟩
  have hk : k < l.length := (List.getElem?_eq_some_iff.1 hx).1
  exact cell_heap (hs b (by rw [hv, ha (ne_nil hk)]; rfl)) (hc k x hx)
theorem IntCap.form {w : World} {v : Value} {l : List Int} (h : IntCap w v l) : ∃ ao cap, v = .slice ao l.length cap := h.at'.form

def LCC (w : World) (b off : Nat) (x : List Int) : Prop := ∃ u, w.cell? ⟨b, off, none⟩ = some u ∧ IntCap w u x
theorem lcc_keeps : Keeps LCC := fun _ _ _ _ _ hb ⟨u, h1, h2⟩ => ⟨u, keep_cell hb h1, h2.keep hb⟩

def LstC (w : World) (v : Value) (L : List (List Int)) : Prop := ∃ ao b off cap, SlAt w 1 LCC v L ao b off cap
theorem LstC.keep {w w' : World} {v : Value} {L : List (List Int)} (h : LstC w v L) (hb : Below w.heap.size w w') : LstC w' v L := by
  obtain ⟨ao, b, off, cap, h⟩ := h
  exact ⟨ao, b, off, cap, h.keep lcc_keeps hb⟩

/-- An execution whose lists have room for themselves. -/
structure ExeC (w : World) (vf vo : Value) (x : Exe) : Prop where
  f : IntAt w vf x.from'
  o : ∃ ao b off cap, SlAt w 1 LCC vo x.order ao b off cap
theorem ExeC.keep {w w' : World} {vf vo : Value} {x : Exe} (h : ExeC w vf vo x) (hb : Below w.heap.size w w') : ExeC w' vf vo x := by
  obtain ⟨ao, b, off, cap, hs⟩ := h.o
  exact ⟨h.f.keep hb, ao, b, off, cap, hs.keep lcc_keeps hb⟩
theorem ExeC.at' {w : World} {vf vo : Value} {x : Exe} (h : ExeC w vf vo x) : ExeAt w vf vo x := by
  obtain ⟨ao, b, off, cap, hs⟩ := h.o
  refine ⟨h.f, ao, b, off, cap, hs.hv, hs.ha, hs.hn, fun k l hl => ?_⟩
  obtain ⟨u, h1, h2⟩ := hs.hc k l hl
  exact ⟨u, h1, h2.at'⟩

/-- A slice of slices of the call's own, each of whose rows lies in a block of its own. -/
structure LL (w : World) (base : Nat) (V : Value) (L : List (List Int)) (vs : List Value) : Prop where
  len : vs.length = L.length
  own : w.ownsRow base 39 1 V L.length vs
  rows : ∀ (j : Nat) (x : List Int), L[j]? = some x → ∃ u, vs[j]? = some u ∧ IntCap w u x ∧ ∀ b, u.ownBlock = some b → base ≤ b ∧ b < w.heap.size ∧ V.ownBlock ≠ some b

theorem LL.nil (w : World) (base : Nat) : LL w base (.slice none 0 0) [] [] := ⟨rfl, World.ownsRow_nil _ _ _ _, fun j x h => by simp at h⟩

theorem LL.other {w w' : World} {base : Nat} {V : Value} {L : List (List Int)} {vs : List Value} (h : LL w base V L vs) (hsz : w.heap.size ≤ w'.heap.size) (hs : ∀ b : Nat, base ≤ b → b < w.heap.size → w'.heap[b]? = w.heap[b]?) : LL w' base V L vs := by
  refine ⟨h.len, own_other h.own (fun b hb => hs b (h.own.lt b hb).1 (h.own.lt b hb).2), fun j x hx => ?_⟩
  obtain ⟨u, h1, h2, h3⟩ := h.rows j x hx
  exact ⟨u, h1, h2.other (fun b hb => hs b (h3 b hb).1 (h3 b hb).2.1), fun b hb => ⟨(h3 b hb).1, Nat.lt_of_lt_of_le (h3 b hb).2.1 hsz, (h3 b hb).2.2⟩⟩
theorem LL.keep {w w' : World} {base : Nat} {V : Value} {L : List (List Int)} {vs : List Value} (h : LL w base V L vs) (hb : Below w.heap.size w w') : LL w' base V L vs := h.other hb.size (fun b _ hb2 => hb.block b hb2)
theorem LL.only {B : Nat} {w w' : World} {base : Nat} {V : Value} {L : List (List Int)} {vs : List Value} (h : LL w base V L vs) (ho : Only B w w') (hB : B < base) : LL w' base V L vs := h.other ho.size (fun b h1 h2 => ho.block b h2 (by omega))

theorem LL.snoc {w w2 : World} {base : Nat} {V V' : Value} {L : List (List Int)} {vs : List Value} (h : LL w base V L vs) {x : List Int} {u : Value} {o : Obj} (hu : IntCap w u x)
    (hub : ∀ b, u.ownBlock = some b → base ≤ b ∧ b < w.heap.size ∧ V.ownBlock ≠ some b) (hown : w2.ownsRow base 39 1 V' (L.length + 1) (vs ++ [u])) (hg : (w.alloc o).grownBy w2 V.ownBlock)
    (hap : ∀ g, V'.ownBlock = some g → V.ownBlock = some g ∨ w.heap.size + 1 ≤ g) : LL w2 base V' (L ++ [x]) (vs ++ [u]) := by
  have hsz : w.heap.size + 1 ≤ w2.heap.size := by have := hg.size; simpa using this
  have key : ∀ b : Nat, b < w.heap.size → V.ownBlock ≠ some b → w2.heap[b]? = w.heap[b]? := by
    intro b hb hne
    rw [hg.block b (by simp; omega) (fun e => hne e.symm), Below.heap_alloc _ _ _ hb]
  refine ⟨by simp [h.len], by simpa using hown, fun j y hy => ?_⟩
  by_cases hj : j < L.length
  · rw [List.getElem?_append_left hj] at hy
    obtain ⟨z, h1, h2, h3⟩ := h.rows j y hy
    refine ⟨z, by rw [List.getElem?_append_left (by rw [h.len]; exact hj)]; exact h1, h2.other (fun b hb => key b (h3 b hb).2.1 (h3 b hb).2.2), fun b hb => ?_⟩
    have h4 := (h3 b hb).2.1
    refine ⟨(h3 b hb).1, by omega, fun e => ?_⟩
    rcases hap b e with e' | e'
    · exact (h3 b hb).2.2 e'
    · omega
  · have hjL : j = L.length := by
      have := (List.getElem?_eq_some_iff.1 hy).1
      simp at this; omega
    subst hjL
    rw [List.getElem?_append_right (Nat.le_refl _), Nat.sub_self] at hy
    simp at hy
    subst hy
    refine ⟨u, by rw [List.getElem?_append_right (by rw [h.len]; exact Nat.le_refl _), h.len]; simp, hu.other (fun b hb => key b (hub b hb).2.1 (hub b hb).2.2), fun b hb => ?_⟩
    have h4 := (hub b hb).2.1
    refine ⟨(hub b hb).1, by omega, fun e => ?_⟩
    rcases hap b e with e' | e'
    · exact (hub b hb).2.2 e'
    · omega

/-- A list of lists in memory that is new: from block B on, its rows too. -/
def LstNew (B : Nat) (w : World) (v : Value) (L : List (List Int)) : Prop :=
  ∃ ao b off cap, v = .slice ao L.length cap ∧ (L ≠ [] → ao = some ⟨b, off, none⟩) ∧ (ao = none → L = [] ∧ cap = 0) ∧ B ≤ b ∧
    ∀ (k : Nat) (x : List Int), L[k]? = some x → ∃ u, w.cell? ⟨b, off + k, none⟩ = some u ∧ IntCap w u x ∧ ∀ g, u.ownBlock = some g → B ≤ g ∧ g < w.heap.size

theorem LL.read {w : World} {base : Nat} {V : Value} {L : List (List Int)} {vs : List Value} (h : LL w base V L vs) : LstNew base w V L := by
  rcases h.own.2 with ⟨hv, hn⟩ | ⟨g, cap, cur, hv, hg, hh, _⟩
  · have h0 : L = [] := List.eq_nil_of_length_eq_zero hn
    subst h0
    exact ⟨none, base, 0, 0, hv, fun h => absurd rfl h, fun _ => ⟨rfl, rfl⟩, Nat.le_refl _, fun k x h => by simp at h⟩
  · refine ⟨_, g, 0, cap, hv, fun _ => rfl, fun h => by simp at h, hg, fun k x hk => ?_⟩
    obtain ⟨u, h1, h2, h3⟩ := h.rows k x hk
    have := h.own.cells (g := g) (by rw [hv]; rfl) k u h1
    rw [Addr.add_lit] at this
    exact ⟨u, this, h2, fun b hb => ⟨(h3 b hb).1, (h3 b hb).2.1⟩⟩

theorem LstNew.at' {B : Nat} {w : World} {v : Value} {L : List (List Int)} (h : LstNew B w v L) : LstAt w v L := by
  obtain ⟨ao, b, off, cap, hv, ha, hn, _, hc⟩ := h
  refine ⟨ao, b, off, cap, hv, ha, hn, fun k x hx => ?_⟩
  obtain ⟨u, h1, h2, _⟩ := hc k x hx
  rw [Nat.mul_one]
  exact ⟨u, h1, h2.at'⟩
theorem LstNew.caps {B : Nat} {w : World} {v : Value} {L : List (List Int)} (h : LstNew B w v L) : ∃ ao b off cap, SlAt w 1 LCC v L ao b off cap := by
  obtain ⟨ao, b, off, cap, hv, ha, hn, _, hc⟩ := h
  refine ⟨ao, b, off, cap, hv, ha, hn, fun k x hx => ?_⟩
  obtain ⟨u, h1, h2, _⟩ := hc k x hx
  rw [Nat.mul_one]
  exact ⟨u, h1, h2⟩

/-- What is left of a slice behind its first k entries. -/
theorem intCap_drop {w : World} {l : List Int} {b off cap : Nat} (h : SlAt w 1 IntC (.slice (some ⟨b, off, none⟩) l.length cap) l (some ⟨b, off, none⟩) b off cap) (hc : l.length ≤ cap) {k : Nat} (hk : k ≤ l.length) :
    IntCap w (.slice (if cap = k then (some ⟨b, off, none⟩ : Option Addr) else some ⟨b, off + k, none⟩) (l.length - k) (cap - k)) (l.drop k) := by
  by_cases e : cap = k
  · rw [if_pos e]
    have hd : l.drop k = [] := List.drop_eq_nil_of_le (by omega)
    rw [hd]
    exact ⟨_, b, off, _, ⟨by rw [show l.length - k = 0 by omega]; rfl, fun h => absurd rfl h, fun h => by simp at h, fun k x h => by simp at h⟩, Nat.zero_le _⟩
  · rw [if_neg e]
    refine ⟨_, b, off + k, _, ⟨by rw [List.length_drop], fun _ => rfl, fun h => by simp at h, fun j x hx => ?_⟩, by rw [List.length_drop]; omega⟩
    rw [List.getElem?_drop] at hx
    have := h.hc (k + j) x hx
    unfold IntC at this ⊢
    rw [Nat.mul_one] at this ⊢
    rw [Nat.add_assoc]; exact this

end Go.Proofs.Ytomijmikkbhgmab

namespace Go.Proofs.Ytomijmikkbhgmab
open Go.RowKit

end Go.Proofs.Ytomijmikkbhgmab

namespace Go.Proofs.Ytomijmikkbhgmab

/-- All arrows lead between events. -/
def Arws (n : Nat) (A : List (Int × Int)) : Prop := ∀ p ∈ A, ∃ a b : Nat, a < n ∧ b < n ∧ p = ((a : Int), (b : Int))

/-- To each event of the set an arrow leads from within it. -/
def Core (n : Nat) (A : List (Int × Int)) (S : Nat → Prop) : Prop := ∀ b, b < n → S b → ∃ a : Nat, a < n ∧ S a ∧ ((a : Int), (b : Int)) ∈ A

def Cyc (n : Nat) (A : List (Int × Int)) : Prop := ∃ S : Nat → Prop, (∃ b, b < n ∧ S b) ∧ Core n A S

theorem Cyc.mono {n : Nat} {A B : List (Int × Int)} (h : Cyc n A) (hs : ∀ p ∈ A, p ∈ B) : Cyc n B := by
  obtain ⟨S, h1, h2⟩ := h
  refine ⟨S, h1, fun b hb hS => ?_⟩
  obtain ⟨a, k1, k2, k3⟩ := h2 b hb hS
  exact ⟨a, k1, k2, hs _ k3⟩

/-- Does an arrow lead to an event from one that is still there? -/
def ldB (g : Nat → Bool) (to : Int) (A : List (Int × Int)) : Bool := A.any fun p => p.2 == to && !g p.1.toNat

theorem ldB_iff {n : Nat} {A : List (Int × Int)} (hA : Arws n A) (g : Nat → Bool) (b : Nat) : ldB g (b : Int) A = true ↔ ∃ a : Nat, a < n ∧ g a = false ∧ ((a : Int), (b : Int)) ∈ A := by
  unfold ldB
  rw [List.any_eq_true]
  constructor
  · rintro ⟨p, hp, h⟩
    obtain ⟨a, c, ha, _, rfl⟩ := hA p hp
    simp only [Bool.and_eq_true, beq_iff_eq, Bool.not_eq_true', Int.toNat_natCast] at h
    obtain ⟨h1, h2⟩ := h
    rw [h1] at hp
    exact ⟨a, ha, h2, hp⟩
  · rintro ⟨a, _, h2, h3⟩
    exact ⟨_, h3, by simp [h2]⟩

/-- How many are still there. -/
def stay (n : Nat) (g : Nat → Bool) : Nat := ((List.range n).filter fun i => !g i).length

def take1 (g : Nat → Bool) (i : Nat) : Nat → Bool := fun j => if j = i then true else g j

theorem stay_take {n : Nat} {g : Nat → Bool} {i : Nat} (hi : i < n) (hg : g i = false) : stay n (take1 g i) + 1 = stay n g := by
  unfold stay take1
  induction n with
  | zero => omega
  | succ n ih =>
    rw [List.range_succ, List.filter_append, List.filter_append, List.length_append, List.length_append]
    by_cases e : i = n
    · subst e
      have h1 : (List.range i).filter (fun j => !(if j = i then true else g j)) = (List.range i).filter (fun j => !g j) := by
        refine List.filter_congr fun j hj => ?_
        have : j < i := by simpa using hj
        rw [if_neg (by omega)]
      rw [h1]
      simp [hg]
    · have := ih (by omega)
      have h2 : ¬ n = i := fun h => e h.symm
      simp only [List.filter_cons, List.filter_nil, if_neg h2]
      omega

theorem stay_zero {n : Nat} {g : Nat → Bool} (h : stay n g = 0) : ∀ i, i < n → g i = true := by
  intro i hi
  cases hg : g i
  · have := stay_take hi hg; omega
  · rfl

theorem stay_all (n : Nat) : stay n (fun _ => false) = n := by
  show ((List.range n).filter fun _ => true).length = n
  rw [List.filter_eq_self.2 (fun _ _ => rfl), List.length_range]

theorem stay_le (n : Nat) (g : Nat → Bool) : stay n g ≤ n := by
  unfold stay
  have := List.length_filter_le (fun i => !g i) (List.range n)
  simpa using this

theorem stay_pos {n : Nat} {g : Nat → Bool} (h : 0 < stay n g) : ∃ i, i < n ∧ g i = false := by
  unfold stay at h
  obtain ⟨i, hi⟩ := List.exists_mem_of_length_pos h
  rw [List.mem_filter] at hi
  exact ⟨i, by simpa using hi.1, by simpa using hi.2⟩

/-- Nothing more can be taken away. -/
def Stable (n : Nat) (A : List (Int × Int)) (g : Nat → Bool) : Prop := ∀ b, b < n → g b = false → ldB g (b : Int) A = true

/-- No set that keeps itself has lost anything. -/
def Safe (n : Nat) (A : List (Int × Int)) (g : Nat → Bool) : Prop := ∀ S, Core n A S → ∀ b, b < n → S b → g b = false

theorem Safe.start (n : Nat) (A : List (Int × Int)) : Safe n A (fun _ => false) := fun _ _ _ _ _ => rfl

theorem Safe.take {n : Nat} {A : List (Int × Int)} {g : Nat → Bool} (hA : Arws n A) (h : Safe n A g) {i : Nat} (hl : ldB g (i : Int) A = false) : Safe n A (take1 g i) := by
  intro S hS b hb hSb
  unfold take1
  by_cases e : b = i
  · subst e
    obtain ⟨a, ha, hSa, hm⟩ := hS b hb hSb
    have := (ldB_iff hA g b).2 ⟨a, ha, h S hS a ha hSa, hm⟩
    rw [hl] at this
    cases this
  · rw [if_neg e]; exact h S hS b hb hSb

/-- In the midst of a turn. -/
structure Turn (n : Nat) (A : List (Int × Int)) (t i : Nat) (g : Nat → Bool) : Prop where
  safe : Safe n A g
  step : stay n g + (t + 1) ≤ n ∨ (stay n g + t ≤ n ∧ ∀ b, b < i → g b = false → ldB g (b : Int) A = true) ∨ Stable n A g

theorem Turn.first (n : Nat) (A : List (Int × Int)) : Turn n A 0 0 (fun _ => false) := ⟨Safe.start n A, .inr (.inl ⟨by rw [stay_all]; omega, fun b hb => by omega⟩)⟩

theorem Turn.gone {n : Nat} {A : List (Int × Int)} {t i : Nat} {g : Nat → Bool} (h : Turn n A t i g) (hg : g i = true) : Turn n A t (i + 1) g := by
  refine ⟨h.safe, ?_⟩
  rcases h.step with h1 | ⟨h1, h2⟩ | h1
  · exact .inl h1
  · refine .inr (.inl ⟨h1, fun b hb hgb => ?_⟩)
    by_cases e : b = i
    · subst e; rw [hg] at hgb; cases hgb
    · exact h2 b (by omega) hgb
  · exact .inr (.inr h1)

theorem Turn.stays {n : Nat} {A : List (Int × Int)} {t i : Nat} {g : Nat → Bool} (h : Turn n A t i g) (hl : ldB g (i : Int) A = true) : Turn n A t (i + 1) g := by
  refine ⟨h.safe, ?_⟩
  rcases h.step with h1 | ⟨h1, h2⟩ | h1
  · exact .inl h1
  · refine .inr (.inl ⟨h1, fun b hb hgb => ?_⟩)
    by_cases e : b = i
    · subst e; exact hl
    · exact h2 b (by omega) hgb
  · exact .inr (.inr h1)

theorem Turn.takes {n : Nat} {A : List (Int × Int)} (hA : Arws n A) {t i : Nat} {g : Nat → Bool} (h : Turn n A t i g) (hi : i < n) (hg : g i = false) (hl : ldB g (i : Int) A = false) : Turn n A t (i + 1) (take1 g i) := by
  have hs := stay_take hi hg
  refine ⟨h.safe.take hA hl, ?_⟩
  rcases h.step with h1 | ⟨h1, _⟩ | h1
  · exact .inl (by omega)
  · exact .inl (by omega)
  · have := h1 i hi hg
    rw [hl] at this
    cases this

theorem Turn.next {n : Nat} {A : List (Int × Int)} {t : Nat} {g : Nat → Bool} (h : Turn n A t n g) : Turn n A (t + 1) 0 g := by
  refine ⟨h.safe, ?_⟩
  rcases h.step with h1 | ⟨_, h2⟩ | h1
  · exact .inr (.inl ⟨h1, fun b hb => by omega⟩)
  · exact .inr (.inr h2)
  · exact .inr (.inr h1)

theorem Turn.last {n : Nat} {A : List (Int × Int)} (hA : Arws n A) {g : Nat → Bool} (h : Turn n A n 0 g) : decide (0 < stay n g) = true ↔ Cyc n A := by
  rw [decide_eq_true_eq]
  constructor
  · intro h0
    rcases h.step with h1 | ⟨h1, _⟩ | h1
    · omega
    · omega
    · obtain ⟨i, hi, hgi⟩ := stay_pos h0
      refine ⟨fun b => g b = false, ⟨i, hi, hgi⟩, fun b hb hgb => ?_⟩
      exact (ldB_iff hA g b).1 (h1 b hb hgb)
  · rintro ⟨S, ⟨b, hb, hSb⟩, hS⟩
    refine Nat.pos_of_ne_zero fun h0 => ?_
    have h1 := stay_zero h0 b hb
    rw [h.safe S hS b hb hSb] at h1
    cases h1

end Go.Proofs.Ytomijmikkbhgmab

namespace Go.Proofs.Ytomijmikkbhgmab
open Go.RowKit

structure ArwC (w : World) (b off : Nat) (p : Int × Int) : Prop where
  c0 : w.cell? ⟨b, off, none⟩ = some (.int .i64 p.1)
  c1 : w.cell? ⟨b, off + 1, none⟩ = some (.int .i64 p.2)
theorem arwC_keeps : Keeps ArwC := fun _ _ _ _ _ hb h => ⟨keep_cell hb h.c0, keep_cell hb h.c1⟩
def ArwAt (w : World) (v : Value) (l : List (Int × Int)) : Prop := ∃ ao b off cap, SlAt w 2 ArwC v l ao b off cap
theorem ArwAt.keep {w w' : World} {v : Value} {l : List (Int × Int)} (h : ArwAt w v l) (hb : Below w.heap.size w w') : ArwAt w' v l := by
  obtain ⟨ao, b, off, cap, h⟩ := h
  exact ⟨ao, b, off, cap, h.keep arwC_keeps hb⟩

theorem Try.infoBool : (Try.prog.info? 4).map (fun i => (i.zero, i.size, i.bytes)) = some (some (.bool false), 1, 1) := by kernel_rfl

theorem ldB_hit {g : Nat → Bool} {to : Int} {p : Int × Int} (A : List (Int × Int)) (h1 : p.2 = to) (h2 : g p.1.toNat = false) : ldB g to (p :: A) = true := by simp [ldB, h1, h2]
theorem ldB_mis {g : Nat → Bool} {to : Int} {p : Int × Int} (A : List (Int × Int)) (h : p.2 = to → g p.1.toNat = true) : ldB g to (p :: A) = ldB g to A := by
  unfold ldB
  rw [List.any_cons]
  by_cases e : p.2 = to
  · simp [e, h e]
  · simp [e]

end Go.Proofs.Ytomijmikkbhgmab

namespace Go.Proofs.Ytomijmikkbhgmab
open Go.RowKit

/-- The reads: their numbers, and they themselves. -/
def rdsX : List Evt → Nat → List (Nat × Evt)
  | [], _ => []
  | x :: E, i => if x.kind == 0 then (i, x) :: rdsX E (i + 1) else rdsX E (i + 1)
def rdsI (E : List Evt) (i : Nat) : List Int := (rdsX E i).map fun p => (p.1 : Int)

theorem rdsX_hit {x : Evt} (h : (x.kind == 0) = true) (E : List Evt) (i : Nat) : rdsX (x :: E) i = (i, x) :: rdsX E (i + 1) := by rw [rdsX, if_pos h]
theorem rdsX_mis {x : Evt} (h : (x.kind == 0) = false) (E : List Evt) (i : Nat) : rdsX (x :: E) i = rdsX E (i + 1) := by rw [rdsX, if_neg (by simp [h])]

theorem rdo_eq (E R : List Evt) (i : Nat) : rdo E R = (rdsX R i).map fun p => -1 :: wrs E 0 p.2.loc := by
  induction R generalizing i with
  | nil => rfl
  | cons x R ih =>
    cases h : x.kind == 0
    · rw [rdsX_mis h, rdo, if_neg (by simp [h])]; exact ih (i + 1)
    · rw [rdsX_hit h, rdo, if_pos h, List.map_cons, ih (i + 1)]

theorem rdsX_get {R : List Evt} {i : Nat} {p : Nat × Evt} (h : p ∈ rdsX R i) : i ≤ p.1 ∧ R[p.1 - i]? = some p.2 := by
  induction R generalizing i with
  | nil => simp [rdsX] at h
  | cons x R ih =>
    have key : p ∈ rdsX R (i + 1) → i ≤ p.1 ∧ (x :: R)[p.1 - i]? = some p.2 := by
      intro hp
      obtain ⟨h1, h2⟩ := ih hp
      refine ⟨by omega, ?_⟩
      rw [show p.1 - i = (p.1 - (i + 1)) + 1 by omega]
      simpa using h2
    cases hk : x.kind == 0
    · rw [rdsX_mis hk] at h; exact key h
    · rw [rdsX_hit hk] at h
      rcases List.mem_cons.1 h with rfl | h
      · simp
      · exact key h

theorem rdsX_len (R : List Evt) (i : Nat) : (rdsX R i).length ≤ R.length := by
  induction R generalizing i with
  | nil => simp [rdsX]
  | cons x R ih => have := ih (i + 1); unfold rdsX; split <;> simp <;> omega

theorem int_cells {w : World} {v : Value} {l : List Int} {ao : Option Addr} {b off cap : Nat} (h : SlAt w 1 IntC v l ao b off cap) : ∀ ad, ao = some ad → ∀ j u, (l.map (Value.int .i64))[j]? = some u → w.cell? (ad.add j) = some u := by
  intro ad had j u hj
  rw [List.getElem?_map] at hj
  obtain ⟨x, hx, rfl⟩ := Option.map_eq_some_iff.1 hj
  have hk : j < l.length := (List.getElem?_eq_some_iff.1 hx).1
  rw [h.ha (ne_nil hk)] at had
  cases had
  have hC := h.hc j x hx
  unfold IntC at hC
  rw [Nat.mul_one] at hC
  rw [Addr.add_lit]; exact hC

end Go.Proofs.Ytomijmikkbhgmab

namespace Go.Proofs.Ytomijmikkbhgmab

def restG : List Int → Int → List Int
  | [], _ => []
  | x :: l, w => if x == w then l else restG l w
/-- What stands behind a write (-1: everything) in a list. -/
def restL (l : List Int) (w : Int) : List Int := if w == -1 then l else restG l w

theorem restG_len (l : List Int) (w : Int) : (restG l w).length ≤ l.length := by
  induction l with
  | nil => simp [restG]
  | cons x l ih => unfold restG; split <;> simp <;> omega
theorem restL_len (l : List Int) (w : Int) : (restL l w).length ≤ l.length := by
  unfold restL; split
  · exact Nat.le_refl _
  · exact restG_len l w

theorem restG_mem {l : List Int} {w v : Int} (h : v ∈ restG l w) : v ∈ l := by
  induction l with
  | nil => simp [restG] at h
  | cons x l ih =>
    unfold restG at h
    split at h
    · exact List.mem_cons_of_mem _ h
    · exact List.mem_cons_of_mem _ (ih h)
theorem restL_mem {l : List Int} {w v : Int} (h : v ∈ restL l w) : v ∈ l := by
  unfold restL at h
  split at h
  · exact h
  · exact restG_mem h

def fanL (f : Int) (l : List Int) : List (Int × Int) := l.map fun b => (f, b)

def tailsL : List Int → List (Int × Int)
  | [] => []
  | a :: l => fanL a l ++ tailsL l

def ordAt (x : Exe) (loc : Int) : List Int := x.order.getD loc.toNat []

/-- The arrows that have to do with one read. -/
def arw1 (x : Exe) (q : (Nat × Evt) × Int) : List (Int × Int) :=
  (if q.2 == -1 then [] else [(q.2, (q.1.1 : Int))]) ++ fanL (q.1.1 : Int) (restL (ordAt x q.1.2.loc) q.2)

def arwL (E : List Evt) (x : Exe) : List (Int × Int) := ((rdsX E 0).zip x.from').flatMap (arw1 x) ++ x.order.flatMap tailsL

theorem fanL_len (f : Int) (l : List Int) : (fanL f l).length = l.length := List.length_map ..
theorem fanL_mem {f : Int} {l : List Int} {p : Int × Int} : p ∈ fanL f l ↔ p.1 = f ∧ p.2 ∈ l := by
  unfold fanL
  rw [List.mem_map]
  constructor
  · rintro ⟨b, hb, rfl⟩; exact ⟨rfl, hb⟩
  · rintro ⟨h1, h2⟩; exact ⟨p.2, h2, by rw [← h1]⟩

theorem tailsL_len (l : List Int) : (tailsL l).length ≤ l.length * l.length := by
  induction l with
  | nil => simp [tailsL]
  | cons a l ih =>
    unfold tailsL
    rw [List.length_append, fanL_len, List.length_cons, Nat.mul_add, Nat.add_mul]
    omega

theorem tailsL_mem {l : List Int} {p : Int × Int} (h : p ∈ tailsL l) : p.1 ∈ l ∧ p.2 ∈ l := by
  induction l with
  | nil => simp [tailsL] at h
  | cons a l ih =>
    unfold tailsL at h
    rcases List.mem_append.1 h with h | h
    · obtain ⟨h1, h2⟩ := fanL_mem.1 h
      exact ⟨by rw [h1]; exact List.mem_cons_self .., List.mem_cons_of_mem _ h2⟩
    · exact ⟨List.mem_cons_of_mem _ (ih h).1, List.mem_cons_of_mem _ (ih h).2⟩

end Go.Proofs.Ytomijmikkbhgmab

namespace Go.Proofs.Ytomijmikkbhgmab
open Go.RowKit

/-- The slice that 'rest' hands out. -/
def dropA (ao : Option Addr) (cap k : Nat) : Option Addr := match ao with
  | some a => if cap = k then some a else some ⟨a.block, a.off + k, none⟩
  | none => none
def restW (n : Nat) (ao : Option Addr) (cap : Nat) (x : Int) : List Int → Nat → Value
  | [], _ => .slice none 0 0
  | y :: l, k => if y == x then .slice (dropA ao cap (k + 1)) (n - (k + 1)) (cap - (k + 1)) else restW n ao cap x l (k + 1)
def restV (n : Nat) (ao : Option Addr) (cap : Nat) (l : List Int) (x : Int) : Value := if x == -1 then .slice ao n cap else restW n ao cap x l 0

theorem restW_cap {w : World} {l : List Int} {ao : Option Addr} {cap : Nat} (h : IntCap w (.slice ao l.length cap) l) (hc : l.length ≤ cap) (x : Int) (k : Nat) (hk : k ≤ l.length) : IntCap w (restW l.length ao cap x (l.drop k) k) (restG (l.drop k) x) := by
  generalize hm : l.length - k = m
  induction m generalizing k with
  | zero => rw [drop_nil (by omega)]; exact intCap_nil _
  | succ m ih =>
    have hlt : k < l.length := by omega
    obtain ⟨y, hy⟩ := get_of_lt hlt
    rw [drop_cons hy]
    unfold restW restG
    split
    · obtain ⟨ao', b, off, cap', hs, _⟩ := h
      have hv := hs.hv
      simp only [Value.slice.injEq] at hv
      obtain ⟨rfl, _, rfl⟩ := hv
      have ha := hs.ha (ne_nil hlt)
      subst ha
      exact intCap_drop hs hc (by omega)
    · exact ih (k + 1) (by omega) (by omega)

theorem restV_cap {w : World} {l : List Int} {ao : Option Addr} {cap : Nat} (h : IntCap w (.slice ao l.length cap) l) (hc : l.length ≤ cap) (x : Int) : IntCap w (restV l.length ao cap l x) (restL l x) := by
  unfold restV restL
  split
  · exact h
  · exact restW_cap h hc x 0 (Nat.zero_le _)

theorem restW_hit {n cap k b off : Nat} {x : Int} (l : List Int) : restW n (some ⟨b, off, none⟩) cap x (x :: l) k = .slice (if cap = k + 1 then (some ⟨b, off, none⟩ : Option Addr) else some ⟨b, off + (k + 1), none⟩) (n - (k + 1)) (cap - (k + 1)) := by
  rw [restW, if_pos (by simp)]; rfl
theorem restW_mis {n cap k : Nat} {ao : Option Addr} {x y : Int} (h : (y == x) = false) (l : List Int) : restW n ao cap x (y :: l) k = restW n ao cap x l (k + 1) := by rw [restW, if_neg (by simp [h])]

def arwV (p : Int × Int) : List Value := [.int .i64 p.1, .int .i64 p.2]

end Go.Proofs.Ytomijmikkbhgmab

namespace Go.Proofs.Ytomijmikkbhgmab
open Go.RowKit

def memB (k : Int) : Bool := k == 0 || k == 1

def evV (y : Evt) : Value := .agg #[.int .i64 y.thread, .int .i64 y.place, .int .i64 y.kind, .int .i64 y.loc, .int .i64 y.ins.op, .int .i64 y.ins.loc, .int .i64 y.ins.reg, .int .i64 y.ins.val, .int .i64 y.ins.mode]

def markB (a b : Evt) : Bool := (a.kind == 2 || a.kind == 4 || a.kind == 5) || ((b.kind == 3 || b.kind == 4 || b.kind == 5) || ((a.kind == 0 && a.ins.mode == 1) || (b.kind == 1 && b.ins.mode == 2)))

/-- The last Read of a thread into a register, or what is told. -/
def srcG (y : Evt) : List Evt → Nat → Int → Int
  | [], _, at' => at'
  | z :: l, i, at' => srcG y l (i + 1) (if z.kind == 0 && z.thread == y.thread && z.ins.reg == y.ins.reg then (i : Int) else at')

/-- The events of a kind. -/
def thoL (kd : Int) : List Evt → Nat → List Int
  | [], _ => []
  | x :: E, i => if x.kind == kd then (i : Int) :: thoL kd E (i + 1) else thoL kd E (i + 1)

end Go.Proofs.Ytomijmikkbhgmab

namespace Go.Proofs.Ytomijmikkbhgmab

theorem nodup_le {l m : List Int} (h : l.Nodup) (hs : ∀ x ∈ l, x ∈ m) : l.length ≤ m.length := by
  induction l generalizing m with
  | nil => simp
  | cons a l ih =>
    have ha : a ∈ m := hs a (List.mem_cons_self ..)
    obtain ⟨hn, hl⟩ := List.nodup_cons.1 h
    have h1 := ih hl (m := m.erase a) (fun x hx => (List.mem_erase_of_ne (by rintro rfl; exact hn hx)).2 (hs x (List.mem_cons_of_mem _ hx)))
    rw [List.length_erase_of_mem ha] at h1
    have h2 := List.length_pos_of_mem ha
    rw [List.length_cons]; omega
theorem nodup_cast {l : List Nat} (h : l.Nodup) : (l.map (fun a : Nat => (a : Int))).Nodup := List.Pairwise.map _ (fun a b hab => by omega) h

/-- Does an arrow of the list lead from one event to another? -/
def arwB (A : List (Int × Int)) (a b : Nat) : Bool := A.contains ((a : Int), (b : Int))

theorem arwB_iff {A : List (Int × Int)} {a b : Nat} : arwB A a b = true ↔ ((a : Int), (b : Int)) ∈ A := by unfold arwB; simp

theorem arwB_snoc (A : List (Int × Int)) (p : Int × Int) (a b : Nat) : arwB (A ++ [p]) a b = (decide ((a : Int) = p.1 ∧ (b : Int) = p.2) || arwB A a b) := by
  unfold arwB
  rw [Bool.eq_iff_iff]
  simp [Prod.ext_iff, or_comm]

/-- How many arrows lead into an event, from those below m. -/
def inTo (A : List (Int × Int)) (m j : Nat) : Nat := ((List.range m).filter fun a : Nat => arwB A a j).length

theorem inTo_zero (A : List (Int × Int)) (j : Nat) : inTo A 0 j = 0 := rfl
theorem inTo_yes {A : List (Int × Int)} {m j : Nat} (h : arwB A m j = true) : inTo A (m + 1) j = inTo A m j + 1 := by
  unfold inTo; rw [List.range_succ, List.filter_append, List.length_append]; simp [h]
theorem inTo_no {A : List (Int × Int)} {m j : Nat} (h : arwB A m j = false) : inTo A (m + 1) j = inTo A m j := by
  unfold inTo; rw [List.range_succ, List.filter_append, List.length_append]; simp [h]
theorem inTo_le (A : List (Int × Int)) (m j : Nat) : inTo A m j ≤ m := by
  unfold inTo
  have := List.length_filter_le (fun a : Nat => arwB A a j) (List.range m)
  simpa using this

/-- How many arrows lead into an event, from those that are not gone. -/
def cnt (A : List (Int × Int)) (n : Nat) (P : List Int) (j : Nat) : Nat := ((List.range n).filter fun a : Nat => !P.contains (a : Int) && arwB A a j).length

theorem cnt_nil (A : List (Int × Int)) (n j : Nat) : cnt A n [] j = inTo A n j := by unfold cnt inTo; simp

theorem cnt_le (A : List (Int × Int)) (n : Nat) (P : List Int) (j : Nat) : cnt A n P j ≤ n := by
  unfold cnt
  have := List.length_filter_le (fun a : Nat => !P.contains (a : Int) && arwB A a j) (List.range n)
  simpa using this

theorem cnt_zero {A : List (Int × Int)} {n : Nat} {P : List Int} {j : Nat} (h : cnt A n P j = 0) {a : Nat} (ha : a < n) (hA : arwB A a j = true) : (a : Int) ∈ P := by
  unfold cnt at h
  have h0 := List.eq_nil_of_length_eq_zero h
  by_cases hm : (a : Int) ∈ P
  · exact hm
  · have : a ∈ (List.range n).filter fun a : Nat => !P.contains (a : Int) && arwB A a j := by
      rw [List.mem_filter]; exact ⟨by simpa using ha, by simp [hm, hA]⟩
    rw [h0] at this; cases this

theorem cnt_pos {A : List (Int × Int)} {n : Nat} {P : List Int} {j : Nat} (h : cnt A n P j ≠ 0) : ∃ a, a < n ∧ (a : Int) ∉ P ∧ arwB A a j = true := by
  unfold cnt at h
  obtain ⟨a, ha⟩ := List.exists_mem_of_length_pos (Nat.pos_of_ne_zero h)
  rw [List.mem_filter] at ha
  refine ⟨a, by simpa using ha.1, ?_, ?_⟩
  · have := ha.2; simp at this; exact this.1
  · have := ha.2; simp at this; exact this.2

theorem cnt_snoc_aux (A : List (Int × Int)) (P : List Int) (e j : Nat) (he : (e : Int) ∉ P) (n : Nat) :
    ((List.range n).filter fun a : Nat => !P.contains (a : Int) && arwB A a j).length = ((List.range n).filter fun a : Nat => !(P ++ [(e : Int)]).contains (a : Int) && arwB A a j).length + (if e < n ∧ arwB A e j = true then 1 else 0) := by
  induction n with
  | zero => simp
  | succ n ih =>
    rw [List.range_succ, List.filter_append, List.filter_append, List.length_append, List.length_append, ih]
    by_cases e1 : e = n
    · subst e1
      have hnot : ¬ (e < e ∧ arwB A e j = true) := by omega
      rw [if_neg hnot]
      cases hA : arwB A e j
      · simp [hA]
      · simp [hA, he]
    · have h1 : (if e < n + 1 ∧ arwB A e j = true then 1 else 0) = (if e < n ∧ arwB A e j = true then 1 else 0) := by
        by_cases h2 : e < n
        · simp [h2, Nat.lt_succ_of_lt h2]
        · have : ¬ e < n + 1 := by omega
          simp [h2, this]
      rw [h1]
      have h3 : ((n : Int) = (e : Int)) = False := by simp; omega
      have h4 : (P ++ [(e : Int)]).contains (n : Int) = P.contains (n : Int) := by
        rw [Bool.eq_iff_iff]; simp; intro h; omega
      have h5 : (List.filter (fun a : Nat => !(P ++ [(e : Int)]).contains (a : Int) && arwB A a j) [n]).length = (List.filter (fun a : Nat => !P.contains (a : Int) && arwB A a j) [n]).length := by
        simp only [List.filter_cons, List.filter_nil, h4]
      rw [h5]; omega

theorem cnt_snoc_yes {A : List (Int × Int)} {n : Nat} {P : List Int} {e j : Nat} (he : (e : Int) ∉ P) (hn : e < n) (h : arwB A e j = true) : cnt A n P j = cnt A n (P ++ [(e : Int)]) j + 1 := by
  have := cnt_snoc_aux A P e j he n
  rw [if_pos ⟨hn, h⟩] at this; exact this
theorem cnt_snoc_no {A : List (Int × Int)} {n : Nat} {P : List Int} {e j : Nat} (he : (e : Int) ∉ P) (h : arwB A e j = false) : cnt A n P j = cnt A n (P ++ [(e : Int)]) j := by
  have := cnt_snoc_aux A P e j he n
  rw [if_neg (by rw [h]; simp)] at this; exact this

/-- In the midst of the counting: d events have gone, and of the next one the arrows to those below t. -/
structure Kahn (n : Nat) (A : List (Int × Int)) (F : List Int) (d t : Nat) : Prop where
  nat : ∀ x ∈ F, ∃ a : Nat, a < n ∧ x = (a : Int)
  nodup : F.Nodup
  free : ∀ j, j < n → ((j : Int) ∈ F ↔ cnt A n (F.take (if j < t then d + 1 else d)) j = 0)
  safe : ∀ S, Core n A S → ∀ b, b < n → S b → (b : Int) ∉ F

theorem Kahn.len {n : Nat} {A : List (Int × Int)} {F : List Int} {d t : Nat} (h : Kahn n A F d t) : F.length ≤ n := by
  have h1 : ∀ x ∈ F, x ∈ (List.range n).map (fun a : Nat => (a : Int)) := fun x hx => by
    obtain ⟨a, ha, rfl⟩ := h.nat x hx
    exact List.mem_map.2 ⟨a, by simpa using ha, rfl⟩
  have := nodup_le h.nodup h1
  simpa using this

/-- The first ones: those into which no arrow leads, below m. -/
def noneIn (A : List (Int × Int)) (n m : Nat) : List Int := ((List.range m).filter fun j => inTo A n j == 0).map fun j : Nat => (j : Int)

theorem noneIn_yes {A : List (Int × Int)} {n m : Nat} (h : inTo A n m = 0) : noneIn A n (m + 1) = noneIn A n m ++ [(m : Int)] := by
  unfold noneIn; rw [List.range_succ, List.filter_append, List.map_append]; simp [h]
theorem noneIn_no {A : List (Int × Int)} {n m : Nat} (h : inTo A n m ≠ 0) : noneIn A n (m + 1) = noneIn A n m := by
  unfold noneIn; rw [List.range_succ, List.filter_append, List.map_append]; simp [h]
theorem noneIn_len (A : List (Int × Int)) (n m : Nat) : (noneIn A n m).length ≤ m := by
  unfold noneIn; rw [List.length_map]
  have := List.length_filter_le (fun j => inTo A n j == 0) (List.range m)
  simpa using this

theorem Kahn.start (n : Nat) (A : List (Int × Int)) : Kahn n A (noneIn A n n) 0 0 := by
  have key : ∀ j : Nat, ((j : Int) ∈ noneIn A n n ↔ j < n ∧ inTo A n j = 0) := by
    intro j
    unfold noneIn
    rw [List.mem_map]
    constructor
    · rintro ⟨a, ha, e⟩
      have : a = j := by omega
      subst this
      rw [List.mem_filter] at ha
      exact ⟨by simpa using ha.1, by simpa using ha.2⟩
    · rintro ⟨h1, h2⟩
      exact ⟨j, by rw [List.mem_filter]; exact ⟨by simpa using h1, by simpa using h2⟩, rfl⟩
  refine ⟨fun x hx => ?_, ?_, fun j hj => ?_, fun S hS b hb hSb hF => ?_⟩
  · unfold noneIn at hx
    obtain ⟨a, ha, rfl⟩ := List.mem_map.1 hx
    rw [List.mem_filter] at ha
    exact ⟨a, by simpa using ha.1, rfl⟩
  · unfold noneIn
    refine nodup_cast (List.Pairwise.filter _ List.nodup_range)
  · rw [key, if_neg (by omega), List.take_zero, cnt_nil]
    exact ⟨fun h => h.2, fun h => ⟨hj, h⟩⟩
  · obtain ⟨a, ha, hSa, hm⟩ := hS b hb hSb
    have h0 := ((key b).1 hF).2
    rw [← cnt_nil] at h0
    have := cnt_zero h0 ha (arwB_iff.2 hm)
    cases this

theorem take_succ_get {F : List Int} {d : Nat} {x : Int} (h : F[d]? = some x) : F.take (d + 1) = F.take d ++ [x] := by
  rw [List.take_add_one, h]; rfl

theorem Kahn.notIn {n : Nat} {A : List (Int × Int)} {F : List Int} {d t : Nat} (h : Kahn n A F d t) {x : Int} (hx : F[d]? = some x) : x ∉ F.take d := by
  intro hm
  obtain ⟨i, hi⟩ := List.mem_iff_getElem?.1 hm
  have hid : i < d := by
    have := (List.getElem?_eq_some_iff.1 hi).1
    rw [List.length_take] at this; omega
  rw [List.getElem?_take_of_lt hid] at hi
  obtain ⟨p1, q1⟩ := List.getElem?_eq_some_iff.1 hi
  obtain ⟨p2, q2⟩ := List.getElem?_eq_some_iff.1 hx
  exact (List.pairwise_iff_getElem.1 h.nodup i d p1 p2 hid) (q1.trans q2.symm)

/-- No arrow to t. -/
theorem Kahn.no {n : Nat} {A : List (Int × Int)} {F : List Int} {d t e : Nat} (h : Kahn n A F d t) (hx : F[d]? = some (e : Int)) (hA : arwB A e t = false) :
    Kahn n A F d (t + 1) ∧ cnt A n (F.take (d + 1)) t = cnt A n (F.take d) t := by
  have hc : cnt A n (F.take (d + 1)) t = cnt A n (F.take d) t := by
    rw [take_succ_get hx]; exact (cnt_snoc_no (h.notIn hx) hA).symm
  refine ⟨⟨h.nat, h.nodup, fun j hj => ?_, h.safe⟩, hc⟩
  rw [h.free j hj]
  by_cases e1 : j = t
  · subst e1; rw [if_neg (by omega), if_pos (by omega), hc]
  · by_cases e2 : j < t
    · rw [if_pos e2, if_pos (by omega)]
    · rw [if_neg e2, if_neg (by omega)]

/-- An arrow to t, and others are left. -/
theorem Kahn.more {n : Nat} {A : List (Int × Int)} {F : List Int} {d t e : Nat} (h : Kahn n A F d t) (hx : F[d]? = some (e : Int)) (ht : t < n) (hA : arwB A e t = true) :
    cnt A n (F.take d) t = cnt A n (F.take (d + 1)) t + 1 ∧ (cnt A n (F.take (d + 1)) t ≠ 0 → Kahn n A F d (t + 1)) ∧
    (cnt A n (F.take (d + 1)) t = 0 → Kahn n A (F ++ [(t : Int)]) d (t + 1)) := by
  obtain ⟨e', he, hee⟩ := h.nat _ (List.mem_of_getElem? hx)
  have : e' = e := by omega
  subst this
  have hc : cnt A n (F.take d) t = cnt A n (F.take (d + 1)) t + 1 := by
    rw [take_succ_get hx]; exact cnt_snoc_yes (h.notIn hx) he hA
  have hnt : (t : Int) ∉ F := by
    intro hm
    have := (h.free t ht).1 hm
    rw [if_neg (by omega)] at this
    omega
  refine ⟨hc, fun hne => ⟨h.nat, h.nodup, fun j hj => ?_, h.safe⟩, fun h0 => ⟨fun x hx => ?_, ?_, fun j hj => ?_, fun S hS b hb hSb hF => ?_⟩⟩
  · by_cases e1 : j = t
    · subst e1
      rw [if_pos (by omega)]
      exact ⟨fun h => absurd h hnt, fun h => absurd h hne⟩
    · rw [h.free j hj]
      by_cases e2 : j < t
      · rw [if_pos e2, if_pos (by omega)]
      · rw [if_neg e2, if_neg (by omega)]
  · rcases List.mem_append.1 hx with hx | hx
    · exact h.nat x hx
    · simp at hx; exact ⟨t, ht, hx⟩
  · rw [List.nodup_append]
    refine ⟨h.nodup, by simp, fun a ha b hb => ?_⟩
    simp at hb; subst hb
    intro e; subst e; exact hnt ha
  · have hd : d < F.length := (List.getElem?_eq_some_iff.1 hx).1
    have ht1 : (F ++ [(t : Int)]).take (d + 1) = F.take (d + 1) := by rw [List.take_append_of_le_length (by omega)]
    have ht2 : (F ++ [(t : Int)]).take d = F.take d := by rw [List.take_append_of_le_length (by omega)]
    by_cases e1 : j = t
    · subst e1
      rw [if_pos (by omega), ht1]
      exact ⟨fun _ => h0, fun _ => by simp⟩
    · have : ((j : Int) ∈ F ++ [(t : Int)] ↔ (j : Int) ∈ F) := by
        simp; intro h; omega
      rw [this, h.free j hj]
      by_cases e2 : j < t
      · rw [if_pos e2, if_pos (by omega), ht1]
      · rw [if_neg e2, if_neg (by omega), ht2]
  · rcases List.mem_append.1 hF with hF | hF
    · exact h.safe S hS b hb hSb hF
    · have : b = t := by simp at hF; omega
      subst this
      obtain ⟨a, ha, hSa, hm⟩ := hS b hb hSb
      have hin := cnt_zero h0 ha (arwB_iff.2 hm)
      exact h.safe S hS a ha hSa (List.mem_of_mem_take hin)

/-- All arrows of the event are gone. -/
theorem Kahn.next {n : Nat} {A : List (Int × Int)} {F : List Int} {d : Nat} (h : Kahn n A F d n) : Kahn n A F (d + 1) 0 := by
  refine ⟨h.nat, h.nodup, fun j hj => ?_, h.safe⟩
  rw [h.free j hj, if_pos hj, if_neg (by omega)]

theorem Kahn.last {n : Nat} {A : List (Int × Int)} {F : List Int} {d : Nat} (h : Kahn n A F d 0) (hd : F.length ≤ d) : decide ((F.length : Int) < (n : Int)) = true ↔ Cyc n A := by
  rw [decide_eq_true_eq]
  have hfree : ∀ j, j < n → ((j : Int) ∈ F ↔ cnt A n F j = 0) := fun j hj => by
    have := h.free j hj
    rw [if_neg (by omega), List.take_of_length_le hd] at this
    exact this
  constructor
  · intro hlt
    have hex : ∃ j, j < n ∧ (j : Int) ∉ F := by
      refine Classical.byContradiction fun hno => ?_
      have hall : ∀ j, j < n → (j : Int) ∈ F := fun j hj => Classical.byContradiction fun h2 => hno ⟨j, hj, h2⟩
      have h1 : ∀ x ∈ (List.range n).map (fun a : Nat => (a : Int)), x ∈ F := fun x hx => by
        obtain ⟨a, ha, rfl⟩ := List.mem_map.1 hx
        exact hall a (by simpa using ha)
      have hnd : ((List.range n).map (fun a : Nat => (a : Int))).Nodup := nodup_cast List.nodup_range
      have := nodup_le hnd h1
      simp at this
      omega
    obtain ⟨j, hj, hjF⟩ := hex
    refine ⟨fun b => (b : Int) ∉ F, ⟨j, hj, hjF⟩, fun b hb hbF => ?_⟩
    obtain ⟨a, ha, haF, hm⟩ := cnt_pos (fun h0 => hbF ((hfree b hb).2 h0))
    exact ⟨a, ha, haF, arwB_iff.1 hm⟩
  · rintro ⟨S, ⟨b, hb, hSb⟩, hS⟩
    have hle := h.len
    have hne : F.length ≠ n := by
      intro e
      have hbF := h.safe S hS b hb hSb
      have hsub : ∀ x ∈ (b : Int) :: F, x ∈ (List.range n).map (fun a : Nat => (a : Int)) := fun x hx => by
        rcases List.mem_cons.1 hx with rfl | hx
        · exact List.mem_map.2 ⟨b, by simpa using hb, rfl⟩
        · obtain ⟨a, ha, rfl⟩ := h.nat x hx
          exact List.mem_map.2 ⟨a, by simpa using ha, rfl⟩
      have := nodup_le (List.nodup_cons.2 ⟨hbF, h.nodup⟩) hsub
      simp at this
      omega
    omega

end Go.Proofs.Ytomijmikkbhgmab

namespace Go.Proofs.Ytomijmikkbhgmab
open Go.RowKit

/-- A row of arrows: whether one leads from a to b stands at a * n + b. -/
def MatAt (w : World) (bl n : Nat) (A : List (Int × Int)) : Prop := w.rowIs bl 4 (n * n) (fun q => .bool (arwB A (q / n) (q % n)))

theorem MatAt.cell {w : World} {bl n : Nat} {A : List (Int × Int)} (h : MatAt w bl n A) {a b : Nat} (ha : a < n) (hb : b < n) : w.cell? ⟨bl, a * n + b, none⟩ = some (.bool (arwB A a b)) := by
  have hq : a * n + b < n * n := by
    have : (a + 1) * n ≤ n * n := Nat.mul_le_mul_right n ha
    rw [Nat.add_mul] at this; omega
  have h1 := World.rowIs.cell h hq
  have e1 : (a * n + b) / n = a := by rw [Nat.mul_comm, Nat.mul_add_div (by omega), Nat.div_eq_of_lt hb]; omega
  have e2 : (a * n + b) % n = b := by rw [Nat.mul_comm, Nat.mul_add_mod, Nat.mod_eq_of_lt hb]
  rw [e1, e2] at h1
  exact h1

theorem MatAt.congr {w : World} {bl n : Nat} {A B : List (Int × Int)} (h : MatAt w bl n A) (e : ∀ a b, a < n → b < n → arwB A a b = arwB B a b) : MatAt w bl n B := by
  refine World.rowIs.congr h fun q hq => ?_
  have hn : 0 < n := Nat.pos_of_ne_zero fun h0 => by subst h0; simp at hq
  rw [e _ _ ((Nat.div_lt_iff_lt_mul hn).2 hq) (Nat.mod_lt _ hn)]

theorem MatAt.set {w : World} {bl n : Nat} {A : List (Int × Int)} (h : MatAt w bl n A) {a b : Nat} (_ha : a < n) (hb : b < n) : MatAt (w.setCell ⟨bl, a * n + b, none⟩ (.bool true)) bl n (A ++ [((a : Int), (b : Int))]) := by
  refine (World.rowIs.set h (a * n + b) (.bool true)).congr fun q hq => ?_
  have hn : 0 < n := by omega
  have hmod := Nat.mod_lt q hn
  rw [arwB_snoc]
  by_cases e : q = a * n + b
  · rw [if_pos e]
    have e1 : (a * n + b) / n = a := by rw [Nat.mul_comm, Nat.mul_add_div (by omega), Nat.div_eq_of_lt hb]; omega
    have e2 : (a * n + b) % n = b := by rw [Nat.mul_comm, Nat.mul_add_mod, Nat.mod_eq_of_lt hb]
    rw [e, e1, e2]; simp
  · rw [if_neg e]
    have h2 : ¬ (q / n = a ∧ q % n = b) := fun ⟨h1, h2⟩ => e (by
      have := Nat.div_add_mod q n
      rw [h1, h2, Nat.mul_comm] at this; exact this.symm)
    have h3 : decide (((q / n : Nat) : Int) = ((a : Int), (b : Int)).1 ∧ ((q % n : Nat) : Int) = ((a : Int), (b : Int)).2) = false := by
      rw [decide_eq_false_iff_not]
      rintro ⟨h4, h5⟩
      exact h2 ⟨by simp only at h4; omega, by simp only at h5; omega⟩
    rw [h3, Bool.false_or]

theorem MatAt.out {w : World} {bl n : Nat} {A : List (Int × Int)} (h : MatAt w bl n A) {x y : Int} (ho : ¬ (0 ≤ x ∧ x < n ∧ 0 ≤ y ∧ y < n)) : MatAt w bl n (A ++ [(x, y)]) := by
  refine h.congr fun a b ha hb => ?_
  rw [arwB_snoc]
  have : decide ((a : Int) = (x, y).1 ∧ (b : Int) = (x, y).2) = false := by
    rw [decide_eq_false_iff_not]
    rintro ⟨rfl, rfl⟩
    exact ho ⟨by omega, by simpa using ha, by omega, by simpa using hb⟩
  rw [this, Bool.false_or]

theorem MatAt.block {w w' : World} {bl n : Nat} {A : List (Int × Int)} (h : MatAt w bl n A) (e : w'.heap[bl]? = w.heap[bl]?) : MatAt w' bl n A := World.rowIs.of_block h e
theorem MatAt.lt {w : World} {bl n : Nat} {A : List (Int × Int)} (h : MatAt w bl n A) : bl < w.heap.size := World.rowIs.lt h
theorem MatAt.keep {w w' : World} {bl n : Nat} {A : List (Int × Int)} (h : MatAt w bl n A) (hb : Below w.heap.size w w') : MatAt w' bl n A := h.block (hb.block _ h.lt)

/-- A set of arrows in memory: its two numbers at block p, its row in block bl. -/
structure SetAt (w : World) (p bl n : Nat) (A : List (Int × Int)) : Prop where
  c0 : w.cell? ⟨p, 0, none⟩ = some (.int .i64 n)
  c1 : w.cell? ⟨p, 1, none⟩ = some (.slice (some ⟨bl, 0, none⟩) (n * n) (n * n))
  mat : MatAt w bl n A
  ne : p ≠ bl
theorem SetAt.keep {w w' : World} {p bl n : Nat} {A : List (Int × Int)} (h : SetAt w p bl n A) (hb : Below w.heap.size w w') : SetAt w' p bl n A := ⟨keep_cell hb h.c0, keep_cell hb h.c1, h.mat.keep hb, h.ne⟩
theorem SetAt.lt {w : World} {p bl n : Nat} {A : List (Int × Int)} (h : SetAt w p bl n A) : p < w.heap.size := World.block_lt_of_cell? w _ h.c0

theorem SetAt.drew {w : World} {p bl n : Nat} {A : List (Int × Int)} (h : SetAt w p bl n A) : SetAt w.drew p bl n A := ⟨h.c0, h.c1, h.mat, h.ne⟩
theorem Only.drew {B : Nat} {w w' : World} (h : Only B w w') : Only B w w'.drew := ⟨h.os, h.tape, h.output, h.size, h.block⟩
theorem Only.setCell (B o : Nat) (u : Value) (w : World) : Only B w (w.setCell ⟨B, o, none⟩ u) :=
  ⟨rfl, rfl, rfl, by simp [World.setCell], fun k _ hn => Below.heap_setCell w ⟨B, o, none⟩ u k hn⟩

theorem sq_le {n : Nat} (h : n ≤ 96) : n * n ≤ 9216 := Nat.mul_le_mul h h

set_option maxHeartbeats 1000000 in
theorem new_any (n : Nat) (hn : n ≤ 96) (w : World) :
    Calls Try.prog 112 #[.int .i64 n] w fun e w' => e = .returned (.agg #[.int .i64 n, .slice (some ⟨w.heap.size + 1, 0, none⟩) (n * n) (n * n)]) ∧ MatAt w' (w.heap.size + 1) n [] ∧ Below w.heap.size w w' := by
  have hsq := sq_le hn
  have hz : ∀ w' : World, MatAt (w'.alloc (.cells (madeCells #[.bool false] (n * n)) 4)) w'.heap.size n [] := fun w' => World.rowIs_made w' (.bool false) (n * n) 4
  have hec : (n : Int) * (n : Int) = ((n * n : Nat) : Int) := by simp
  have hmk := run_make_row' (P := Try.prog) 131 4 (.bool false) 1 Try.underlying131 Try.infoBool rfl .i64 .i64 (n * n) (by omega) (by omega)
  have HZ : Hid (∀ w' : World, MatAt (w'.alloc (.cells (madeCells #[.bool false] (n * n)) 4)) w'.heap.size n []) := hz
  clear hz
  generalize n * n = N at hec hmk HZ hsq ⊢
  go_enter Try.func112, Try.ntmps112
  go_wp2_with fail
  refine bodyPost_ret (v := .agg #[.int .i64 n, .slice (some ⟨w.heap.size + 1, 0, none⟩) N N]) (by simp [results, Try.results112, go_sem, *]) rfl ⟨rfl, ?_, below_two _ _ _⟩
  have hz := HZ.out (w.alloc (.cells #[.int .i64 n, .slice (some ⟨w.heap.size + 1, 0, none⟩) N N] 133))
  rw [World.size_alloc] at hz
  exact hz

set_option maxRecDepth 20000 in
set_option maxHeartbeats 1000000 in
theorem add_any (n : Nat) (hn : n ≤ 96) (A : List (Int × Int)) (p bl : Nat) (x y : Int) (w : World) (h : SetAt w p bl n A) :
    Calls Try.prog 110 #[.pointer (some ⟨p, 0, none⟩), .int .i64 x, .int .i64 y] w fun e w' => ∃ r, e = .returned r ∧ SetAt w' p bl n (A ++ [(x, y)]) ∧ Only bl w w' := by
  obtain ⟨c0, c1, hm, hne⟩ := h
  have HM : Hid (MatAt w bl n A ∧ p ≠ bl ∧ w.cell? ⟨p, 0, none⟩ = some (.int .i64 n) ∧ w.cell? ⟨p, 1, none⟩ = some (.slice (some ⟨bl, 0, none⟩) (n * n) (n * n))) := ⟨hm, hne, c0, c1⟩
  clear hm hne
  by_cases hin : 0 ≤ x ∧ x < n ∧ 0 ≤ y ∧ y < n
  · obtain ⟨h1, h2, h3, h4⟩ := hin
    obtain ⟨a, rfl⟩ := Int.eq_ofNat_of_zero_le h1
    obtain ⟨b, rfl⟩ := Int.eq_ofNat_of_zero_le h3
    have ha : a < n := by omega
    have hb : b < n := by omega
    have hq : a * n + b < n * n := by
      have : (a + 1) * n ≤ n * n := Nat.mul_le_mul_right n ha
      rw [Nat.add_mul] at this; omega
    have hsq := sq_le hn
    have e1 : (a : Int) * (n : Int) = ((a * n : Nat) : Int) := by simp
    have hqI : ((a * n : Nat) : Int) + (b : Int) = ((a * n + b : Nat) : Int) := by omega
    have r0 := HM.out.1.cell ha hb
    have z0 := HM.out.1.frozen (a * n + b)
    have s0 := HM.out.1.lt
    have HK : Hid (SetAt (w.setCell ⟨bl, a * n + b, none⟩ (.bool true)) p bl n (A ++ [((a : Int), (b : Int))]) ∧ Only bl w (w.setCell ⟨bl, a * n + b, none⟩ (.bool true))) := by
      obtain ⟨h1, h2, h3, h4⟩ := HM.out
      have ho := Only.setCell bl (a * n + b) (.bool true) w
      exact ⟨⟨ho.cell h3 h2, ho.cell h4 h2, h1.set ha hb, h2⟩, ho⟩
    generalize a * n + b = q at hq r0 z0 HK hqI
    generalize a * n = m at e1 hqI
    generalize n * n = N at hq hsq c1
    have hqN : (q : Int) < (N : Int) := by omega
    have hm0 : (m : Int) ≤ 9216 := by omega
    have hw1 : IntKind.i64.wrap (m : Int) = (m : Int) := by rw [IntKind.wrap_i64]; omega
    have hw2 : IntKind.i64.wrap (q : Int) = (q : Int) := by rw [IntKind.wrap_i64]; omega
    go_enter Try.func110, Try.ntmps110
    go_wp2_with fail
    refine wp_region_still_tail 13 (by kernel_rfl) (by kernel_rfl) ?_
    simp only [List.take_succ_cons, List.take_zero, List.drop_succ_cons, List.drop_zero]
    repeat still_step
    refine wpStill_nil ?_
    go_wp2_with fail
    exact bodyPost_end (v := .tuple #[]) (results_none rfl _ _ _) rfl ⟨_, rfl, HK.out.1.drew, HK.out.2.drew⟩
  · have HK : Hid (SetAt w p bl n (A ++ [(x, y)])) := ⟨HM.out.2.2.1, HM.out.2.2.2, HM.out.1.out hin, HM.out.2.1⟩
    cases h1 : decide (0 ≤ x)
    · go_enter Try.func110, Try.ntmps110
      go_wp2_with fail
      exact bodyPost_end (v := .tuple #[]) (results_none rfl _ _ _) rfl ⟨_, rfl, HK.out, Only.refl _ _⟩
    · cases h2 : decide (x < (n : Int))
      · go_enter Try.func110, Try.ntmps110
        go_wp2_with fail
        exact bodyPost_end (v := .tuple #[]) (results_none rfl _ _ _) rfl ⟨_, rfl, HK.out, Only.refl _ _⟩
      · cases h3 : decide (0 ≤ y)
        · go_enter Try.func110, Try.ntmps110
          go_wp2_with fail
          exact bodyPost_end (v := .tuple #[]) (results_none rfl _ _ _) rfl ⟨_, rfl, HK.out, Only.refl _ _⟩
        · have h4 : decide (y < (n : Int)) = false := by
            rw [decide_eq_false_iff_not]
            simp only [decide_eq_true_eq] at h1 h2 h3
            exact fun h4 => hin ⟨h1, h2, h3, h4⟩
          go_enter Try.func110, Try.ntmps110
          go_wp2_with fail
          exact bodyPost_end (v := .tuple #[]) (results_none rfl _ _ _) rfl ⟨_, rfl, HK.out, Only.refl _ _⟩

end Go.Proofs.Ytomijmikkbhgmab
