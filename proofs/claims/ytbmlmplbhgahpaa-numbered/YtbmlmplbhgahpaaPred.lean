/- How a test, an execution and lists lie in memory: readings that stay as long as what lies below stays. -/
import Derived.Test.YtbmlmplbhgahpaaMath
import Derived.WalkKit
import Derived.WalkSpells
import Derived.WalkLawsBesides
namespace Go.Proofs.Ytbmlmplbhgahpaa
open Go.RowKit

/-- Cells of an instruction at an address. -/
structure InsC (w : World) (b off : Nat) (x : Ins) : Prop where
  c0 : w.cell? ⟨b, off, none⟩ = some (.int .i64 x.op)
  c1 : w.cell? ⟨b, off + 1, none⟩ = some (.int .i64 x.loc)
  c2 : w.cell? ⟨b, off + 2, none⟩ = some (.int .i64 x.reg)
  c3 : w.cell? ⟨b, off + 3, none⟩ = some (.int .i64 x.val)
  c4 : w.cell? ⟨b, off + 4, none⟩ = some (.int .i64 x.mode)

structure AtmC (w : World) (b off : Nat) (x : Atm) : Prop where
  c0 : w.cell? ⟨b, off, none⟩ = some (.int .i64 x.thread)
  c1 : w.cell? ⟨b, off + 1, none⟩ = some (.int .i64 x.at')
  c2 : w.cell? ⟨b, off + 2, none⟩ = some (.int .i64 x.val)

structure Ev4C (w : World) (b off : Nat) (x : Evt) : Prop where
  c0 : w.cell? ⟨b, off, none⟩ = some (.int .i64 x.thread)
  c1 : w.cell? ⟨b, off + 1, none⟩ = some (.int .i64 x.place)
  c2 : w.cell? ⟨b, off + 2, none⟩ = some (.int .i64 x.kind)
  c3 : w.cell? ⟨b, off + 3, none⟩ = some (.int .i64 x.loc)

structure Ev9C (w : World) (b off : Nat) (x : Evt) : Prop where
  c0 : w.cell? ⟨b, off, none⟩ = some (.int .i64 x.thread)
  c1 : w.cell? ⟨b, off + 1, none⟩ = some (.int .i64 x.place)
  c2 : w.cell? ⟨b, off + 2, none⟩ = some (.int .i64 x.kind)
  c3 : w.cell? ⟨b, off + 3, none⟩ = some (.int .i64 x.loc)
  c4 : w.cell? ⟨b, off + 4, none⟩ = some (.int .i64 x.ins.op)
  c5 : w.cell? ⟨b, off + 5, none⟩ = some (.int .i64 x.ins.loc)
  c6 : w.cell? ⟨b, off + 6, none⟩ = some (.int .i64 x.ins.reg)
  c7 : w.cell? ⟨b, off + 7, none⟩ = some (.int .i64 x.ins.val)
  c8 : w.cell? ⟨b, off + 8, none⟩ = some (.int .i64 x.ins.mode)

/-- A slice of such: element k, of s cells, lies at off + k * s and is told by 'C'. -/
structure SlAt {α : Type} (w : World) (s : Nat) (C : World → Nat → Nat → α → Prop) (v : Value) (l : List α) (ao : Option Addr) (b off cap : Nat) : Prop where
  hv : v = .slice ao l.length cap
  ha : l ≠ [] → ao = some ⟨b, off, none⟩
  hn : ao = none → l = [] ∧ cap = 0
  hc : ∀ k x, l[k]? = some x → C w b (off + k * s) x

def InsAt (w : World) (v : Value) (l : List Ins) : Prop := l.length * 40 ≤ 140737488351232 ∧ ∃ ao b off cap, SlAt w 5 InsC v l ao b off cap
def AtmAt (w : World) (v : Value) (l : List Atm) : Prop := l.length * 24 ≤ 140737488351232 ∧ ∃ ao b off cap, SlAt w 3 AtmC v l ao b off cap
def Ev4At (w : World) (v : Value) (l : List Evt) : Prop := ∃ ao b off cap, SlAt w 4 Ev4C v l ao b off cap
def Ev9At (w : World) (v : Value) (l : List Evt) : Prop := ∃ ao b off cap, SlAt w 9 Ev9C v l ao b off cap
def IntC (w : World) (b off : Nat) (x : Int) : Prop := w.cell? ⟨b, off, none⟩ = some (.int .i64 x)
def IntAt (w : World) (v : Value) (l : List Int) : Prop := ∃ ao b off cap, SlAt w 1 IntC v l ao b off cap
def ThrC (w : World) (b off : Nat) (l : List Ins) : Prop := ∃ u, w.cell? ⟨b, off, none⟩ = some u ∧ InsAt w u l
def ThrAt (w : World) (v : Value) (T : List (List Ins)) : Prop := T.length * 24 ≤ 140737488351232 ∧ ∃ ao b off cap, SlAt w 1 ThrC v T ao b off cap

/-- What is told of cells stays while the cells stay. -/
def Keeps {α : Type} (C : World → Nat → Nat → α → Prop) : Prop := ∀ w w' b off x, Below w.heap.size w w' → C w b off x → C w' b off x

theorem keep_cell {w w' : World} (hb : Below w.heap.size w w') {b off : Nat} {u : Value} (h : w.cell? ⟨b, off, none⟩ = some u) : w'.cell? ⟨b, off, none⟩ = some u :=
  (hb.cell (p := ⟨b, off, none⟩) (World.block_lt_of_cell? w _ h)).trans h

theorem SlAt.keep {α : Type} {C : World → Nat → Nat → α → Prop} (K : Keeps C) {w w' : World} {s : Nat} {v : Value} {l : List α} {ao : Option Addr} {b off cap : Nat}
    (h : SlAt w s C v l ao b off cap) (hb : Below w.heap.size w w') : SlAt w' s C v l ao b off cap := ⟨h.hv, h.ha, h.hn, fun k x hx => K _ _ _ _ _ hb (h.hc k x hx)⟩

theorem insC_keeps : Keeps InsC := fun _ _ _ _ _ hb h => ⟨keep_cell hb h.c0, keep_cell hb h.c1, keep_cell hb h.c2, keep_cell hb h.c3, keep_cell hb h.c4⟩
theorem atmC_keeps : Keeps AtmC := fun _ _ _ _ _ hb h => ⟨keep_cell hb h.c0, keep_cell hb h.c1, keep_cell hb h.c2⟩
theorem ev4C_keeps : Keeps Ev4C := fun _ _ _ _ _ hb h => ⟨keep_cell hb h.c0, keep_cell hb h.c1, keep_cell hb h.c2, keep_cell hb h.c3⟩
theorem ev9C_keeps : Keeps Ev9C := fun _ _ _ _ _ hb h => ⟨keep_cell hb h.c0, keep_cell hb h.c1, keep_cell hb h.c2, keep_cell hb h.c3, keep_cell hb h.c4, keep_cell hb h.c5, keep_cell hb h.c6, keep_cell hb h.c7, keep_cell hb h.c8⟩
theorem intC_keeps : Keeps IntC := fun _ _ _ _ _ hb h => keep_cell hb h

theorem InsAt.keep {w w' : World} {v : Value} {l : List Ins} (h : InsAt w v l) (hb : Below w.heap.size w w') : InsAt w' v l := by
  obtain ⟨h0, ao, b, off, cap, h⟩ := h
  exact ⟨h0, ao, b, off, cap, h.keep insC_keeps hb⟩
theorem AtmAt.keep {w w' : World} {v : Value} {l : List Atm} (h : AtmAt w v l) (hb : Below w.heap.size w w') : AtmAt w' v l := by
  obtain ⟨h0, ao, b, off, cap, h⟩ := h
  exact ⟨h0, ao, b, off, cap, h.keep atmC_keeps hb⟩
theorem Ev4At.keep {w w' : World} {v : Value} {l : List Evt} (h : Ev4At w v l) (hb : Below w.heap.size w w') : Ev4At w' v l := by
  obtain ⟨ao, b, off, cap, h⟩ := h
  exact ⟨ao, b, off, cap, h.keep ev4C_keeps hb⟩
theorem Ev9At.keep {w w' : World} {v : Value} {l : List Evt} (h : Ev9At w v l) (hb : Below w.heap.size w w') : Ev9At w' v l := by
  obtain ⟨ao, b, off, cap, h⟩ := h
  exact ⟨ao, b, off, cap, h.keep ev9C_keeps hb⟩
theorem IntAt.keep {w w' : World} {v : Value} {l : List Int} (h : IntAt w v l) (hb : Below w.heap.size w w') : IntAt w' v l := by
  obtain ⟨ao, b, off, cap, h⟩ := h
  exact ⟨ao, b, off, cap, h.keep intC_keeps hb⟩
theorem thrC_keeps : Keeps ThrC := fun _ _ _ _ _ hb ⟨u, h1, h2⟩ => ⟨u, keep_cell hb h1, h2.keep hb⟩
theorem ThrAt.keep {w w' : World} {v : Value} {T : List (List Ins)} (h : ThrAt w v T) (hb : Below w.heap.size w w') : ThrAt w' v T := by
  obtain ⟨h0, ao, b, off, cap, h⟩ := h
  exact ⟨h0, ao, b, off, cap, h.keep thrC_keeps hb⟩

/-- Old cells and old marks read as before: two rules for the walk. -/
theorem bcell {W w1 : World} (hb : Below W.heap.size W w1) : (∀ b o, b < W.heap.size → w1.cell? ⟨b, o, none⟩ = W.cell? ⟨b, o, none⟩) ∧ (∀ b o, b < W.heap.size → w1.frozen? ⟨b, o, none⟩ = W.frozen? ⟨b, o, none⟩) :=
  ⟨fun b o h => hb.cell (p := ⟨b, o, none⟩) h, fun b o h => hb.frozen (p := ⟨b, o, none⟩) h⟩

theorem below_alloc (w : World) (o : Obj) : Below w.heap.size w (w.alloc o) := (Below.refl _ _).alloc (Nat.le_refl _) _

theorem below_two (w : World) (o o' : Obj) : Below w.heap.size w ((w.alloc o).alloc o') := (below_alloc w o).alloc (by simp) _

theorem below_more {w w1 w2 : World} (h : Below w.heap.size w w1) (k : Below w1.heap.size w1 w2) : Below w.heap.size w w2 := h.trans (k.mono h.size)

/-- A slice of threads, opened: at each place a slice of instructions. -/
theorem ThrAt.opened {w : World} {v : Value} {T : List (List Ins)} (h : ThrAt w v T) : T.length * 24 ≤ 140737488351232 ∧ ∃ ao b off cap, v = .slice ao T.length cap ∧ (T ≠ [] → ao = some ⟨b, off, none⟩) ∧ (ao = none → T = [] ∧ cap = 0) ∧
    ∀ k l, T[k]? = some l → b < w.heap.size ∧ ∃ ao' cap', w.cell? ⟨b, off + k, none⟩ = some (.slice ao' l.length cap') ∧ InsAt w (.slice ao' l.length cap') l := by
  obtain ⟨h0, ao, b, off, cap, hv, ha, hn, hc⟩ := h
  refine ⟨h0, ao, b, off, cap, hv, ha, hn, fun k l hk => ?_⟩
  obtain ⟨u, hu, hi⟩ := hc k l hk
  rw [Nat.mul_one] at hu
  obtain ⟨i0, ao', b', off', cap', hs⟩ := hi
  have := hs.hv; subst this
  exact ⟨World.block_lt_of_cell? w _ hu, ao', cap', hu, i0, ao', b', off', cap', hs⟩

theorem InsC.lt {w : World} {b off : Nat} {x : Ins} (h : InsC w b off x) : b < w.heap.size := World.block_lt_of_cell? w _ h.c0
theorem AtmC.lt {w : World} {b off : Nat} {x : Atm} (h : AtmC w b off x) : b < w.heap.size := World.block_lt_of_cell? w _ h.c0

theorem ne_nil {α : Type} {l : List α} {k : Nat} (h : k < l.length) : l ≠ [] := by intro h0; subst h0; simp at h

/-- A list of numbers in memory that is new: from block B on. -/
def IntNew (B : Nat) (w : World) (v : Value) (l : List Int) : Prop := ∃ ao b off cap, SlAt w 1 IntC v l ao b off cap ∧ B ≤ b ∧ l.length ≤ cap

theorem IntNew.at' {B : Nat} {w : World} {v : Value} {l : List Int} (h : IntNew B w v l) : IntAt w v l := by
  obtain ⟨ao, b, off, cap, h, _⟩ := h
  exact ⟨ao, b, off, cap, h⟩

end Go.Proofs.Ytbmlmplbhgahpaa
