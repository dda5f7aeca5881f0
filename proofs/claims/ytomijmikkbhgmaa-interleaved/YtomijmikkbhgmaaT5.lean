import Derived.Test.YtomijmikkbhgmaaT1
import Derived.Test.YtomijmikkbhgmaaT4
import Derived.Deep.QuietTactic
import Derived.BigQuiet
import Derived.Deep.RegionWith
import Derived.Deep.OwnRows
namespace Go.Proofs.Ytomijmikkbhgmaa
open Go.RowKit

/-- Nothing has turned but block B, and what is new. -/
structure Only (B : Nat) (w w' : World) : Prop where
  os : w'.os = w.os
  tape : w'.tape = w.tape
  output : w'.output = w.output
  size : w.heap.size ≤ w'.heap.size
  block : ∀ k, k < w.heap.size → k ≠ B → w'.heap[k]? = w.heap[k]?

theorem Only.refl (B : Nat) (w : World) : Only B w w := ⟨rfl, rfl, rfl, Nat.le_refl _, fun _ _ _ => rfl⟩
theorem Only.trans {B : Nat} {a b c : World} (h : Only B a b) (k : Only B b c) : Only B a c :=
  ⟨k.os.trans h.os, k.tape.trans h.tape, k.output.trans h.output, Nat.le_trans h.size k.size, fun i hi hn => (k.block i (Nat.lt_of_lt_of_le hi h.size) hn).trans (h.block i hi hn)⟩
theorem Only.of_below {B : Nat} {w w' : World} (h : Below w.heap.size w w') : Only B w w' := ⟨h.os, h.tape, h.output, h.size, fun k hk _ => h.block k hk⟩
theorem Only.below {B n : Nat} {w w' : World} (h : Only B w w') (h1 : n ≤ B) (h2 : n ≤ w.heap.size) : Below n w w' := ⟨h.os, h.tape, h.output, h.size, fun k hk => h.block k (by omega) (by omega)⟩
theorem Only.grown {B n : Nat} {w w' : World} {row : Option Nat} (hg : w.grownBy w' row) (hr : ∀ k, row = some k → n ≤ k) {a : World} (h : Only B a w) (hn : a.heap.size ≤ n) : Only B a w' :=
  ⟨hg.os.trans h.os, hg.tape.trans h.tape, hg.output.trans h.output, Nat.le_trans h.size hg.size, fun k hk hB => (hg.block k (Nat.lt_of_lt_of_le hk h.size) (fun e => by have := hr k e.symm; omega)).trans (h.block k hk hB)⟩
theorem Only.cell {B : Nat} {w w' : World} (h : Only B w w') {b off : Nat} {u : Value} (hc : w.cell? ⟨b, off, none⟩ = some u) (hn : b ≠ B) : w'.cell? ⟨b, off, none⟩ = some u :=
  (World.cell?_of_block (w := w) (h.block b (World.block_lt_of_cell? w _ hc) hn)).trans hc

/-- .. and its block is new too, be it empty. -/
def IntOwn (B : Nat) (w : World) (v : Value) (l : List Int) : Prop := IntNew B w v l ∧ ∀ g, v.ownBlock = some g → B ≤ g ∧ g < w.heap.size
theorem owns_own {w : World} {base : Nat} {e : TypeId} {v : Value} {l : List Int} (h : w.ownsRow base e 1 v l.length (l.map (Value.int .i64))) : IntOwn base w v l := ⟨owns_int h, fun g hg => h.lt g hg⟩

theorem IntAt.only {B : Nat} {w w' : World} {v : Value} {l : List Int} {ao : Option Addr} {b off cap : Nat} (h : SlAt w 1 IntC v l ao b off cap) (ho : Only B w w') (hn : b ≠ B) : SlAt w' 1 IntC v l ao b off cap :=
  ⟨h.hv, h.ha, h.hn, fun k x hx => ho.cell (h.hc k x hx) hn⟩

theorem erase_take {l : List Int} {at' : Nat} (_h : at' < l.length) : l.eraseIdx at' = l.take at' ++ l.drop (at' + 1) := List.eraseIdx_eq_take_drop_succ ..

end Go.Proofs.Ytomijmikkbhgmaa

namespace Go.Proofs.Ytomijmikkbhgmaa
open Go.RowKit

theorem Try.infoInts : (Try.prog.info? 37).map (fun i => (i.zero, i.size, i.bytes)) = some (some (.slice none 0 0), 1, 24) := by kernel_rfl

def LC (w : World) (b off : Nat) (x : List Int) : Prop := ∃ u, w.cell? ⟨b, off, none⟩ = some u ∧ IntAt w u x
def LstAt (w : World) (v : Value) (L : List (List Int)) : Prop := ∃ ao b off cap, SlAt w 1 LC v L ao b off cap

theorem lc_keeps : Keeps LC := fun _ _ _ _ _ hb ⟨u, h1, h2⟩ => ⟨u, keep_cell hb h1, h2.keep hb⟩
theorem LstAt.keep {w w' : World} {v : Value} {L : List (List Int)} (h : LstAt w v L) (hb : Below w.heap.size w w') : LstAt w' v L := by
  obtain ⟨ao, b, off, cap, h⟩ := h
  exact ⟨ao, b, off, cap, h.keep lc_keeps hb⟩

structure ExeAt (w : World) (vf vo : Value) (x : Exe) : Prop where
  f : IntAt w vf x.from'
  o : LstAt w vo x.order
theorem ExeAt.keep {w w' : World} {vf vo : Value} {x : Exe} (h : ExeAt w vf vo x) (hb : Below w.heap.size w w') : ExeAt w' vf vo x := ⟨h.f.keep hb, h.o.keep hb⟩

theorem IntAt.form {w : World} {v : Value} {l : List Int} (h : IntAt w v l) : ∃ ao cap, v = .slice ao l.length cap := by
  obtain ⟨ao, b, off, cap, h⟩ := h
  exact ⟨ao, cap, h.hv⟩

theorem IntAt.other {w w' : World} {v : Value} {l : List Int} (h : IntAt w v l) (hs : ∀ b : Nat, v.ownBlock = some b → w'.heap[b]? = w.heap[b]?) : IntAt w' v l := by
  obtain ⟨ao, b, off, cap, hv, ha, hn, hc⟩ := h
  refine ⟨ao, b, off, cap, hv, ha, hn, fun k x hx => ?_⟩
  have hk : k < l.length := (List.getElem?_eq_some_iff.1 hx).1
  exact cell_heap (hs b (by rw [hv, ha (ne_nil hk)]; rfl)) (hc k x hx)

/-- A slice of numbers with room enough. -/
def IntCap (w : World) (v : Value) (l : List Int) : Prop := ∃ ao b off cap, SlAt w 1 IntC v l ao b off cap ∧ l.length ≤ cap
theorem IntNew.cap {B : Nat} {w : World} {v : Value} {l : List Int} (h : IntNew B w v l) : IntCap w v l := by
  obtain ⟨ao, b, off, cap, h1, _, h2⟩ := h
  exact ⟨ao, b, off, cap, h1, h2⟩
theorem IntCap.at' {w : World} {v : Value} {l : List Int} (h : IntCap w v l) : IntAt w v l := by
  obtain ⟨ao, b, off, cap, h1, _⟩ := h
  exact ⟨ao, b, off, cap, h1⟩
theorem IntCap.keep {w w' : World} {v : Value} {l : List Int} (h : IntCap w v l) (hb : Below w.heap.size w w') : IntCap w' v l := by
  obtain ⟨ao, b, off, cap, h1, h2⟩ := h
  exact ⟨ao, b, off, cap, h1.keep intC_keeps hb, h2⟩
theorem intCap_nil (w : World) : IntCap w (.slice none 0 0) [] := ⟨none, 0, 0, 0, ⟨rfl, fun h => absurd rfl h, fun _ => ⟨rfl, rfl⟩, fun k x h => by simp at h⟩, Nat.le_refl _⟩

theorem IntCap.other {w w' : World} {v : Value} {l : List Int} (h : IntCap w v l) (hs : ∀ b : Nat, v.ownBlock = some b → w'.heap[b]? = w.heap[b]?) : IntCap w' v l := by
  obtain ⟨ao, b, off, cap, ⟨hv, ha, hn, hc⟩, hl⟩ := h
  refine ⟨ao, b, off, cap, ⟨hv, ha, hn, fun k x hx => ?_⟩, hl⟩
  have hk : k < l.length := (List.getElem?_eq_some_iff.1 hx).1
  exact cell_heap (hs b (by rw [hv, ha (ne_nil hk)]; rfl)) (hc k x hx)
theorem IntCap.form {w : World} {v : Value} {l : List Int} (h : IntCap w v l) : ∃ ao cap, v = .slice ao l.length cap := h.at'.form

def LCC (w : World) (b off : Nat) (x : List Int) : Prop := ∃ u, w.cell? ⟨b, off, none⟩ = some u ∧ IntCap w u x
theorem lcc_keeps : Keeps LCC := fun _ _ _ _ _ hb ⟨u, h1, h2⟩ => ⟨u, keep_cell hb h1, h2.keep hb⟩

def LstC (w : World) (v : Value) (L : List (List Int)) : Prop := ∃ ao b off cap, SlAt w 1 LCC v L ao b off cap
theorem LstC.keep {w w' : World} {v : Value} {L : List (List Int)} (h : LstC w v L) (hb : Below w.heap.size w w') : LstC w' v L := by
  obtain ⟨ao, b, off, cap, h⟩ := h
  exact ⟨ao, b, off, cap, h.keep lcc_keeps hb⟩

/-- An execution whose lists have room for themselves. -/
structure ExeC (w : World) (vf vo : Value) (x : Exe) : Prop where
  f : IntAt w vf x.from'
  o : ∃ ao b off cap, SlAt w 1 LCC vo x.order ao b off cap
theorem ExeC.keep {w w' : World} {vf vo : Value} {x : Exe} (h : ExeC w vf vo x) (hb : Below w.heap.size w w') : ExeC w' vf vo x := by
  obtain ⟨ao, b, off, cap, hs⟩ := h.o
  exact ⟨h.f.keep hb, ao, b, off, cap, hs.keep lcc_keeps hb⟩
theorem ExeC.at' {w : World} {vf vo : Value} {x : Exe} (h : ExeC w vf vo x) : ExeAt w vf vo x := by
  obtain ⟨ao, b, off, cap, hs⟩ := h.o
  refine ⟨h.f, ao, b, off, cap, hs.hv, hs.ha, hs.hn, fun k l hl => ?_⟩
  obtain ⟨u, h1, h2⟩ := hs.hc k l hl
  exact ⟨u, h1, h2.at'⟩

/-- A slice of slices of the call's own, each of whose rows lies in a block of its own. -/
structure LL (w : World) (base : Nat) (V : Value) (L : List (List Int)) (vs : List Value) : Prop where
  len : vs.length = L.length
  own : w.ownsRow base 37 1 V L.length vs
  rows : ∀ (j : Nat) (x : List Int), L[j]? = some x → ∃ u, vs[j]? = some u ∧ IntCap w u x ∧ ∀ b, u.ownBlock = some b → base ≤ b ∧ b < w.heap.size ∧ V.ownBlock ≠ some b

theorem LL.nil (w : World) (base : Nat) : LL w base (.slice none 0 0) [] [] := ⟨rfl, World.ownsRow_nil _ _ _ _, fun j x h => by simp at h⟩

theorem LL.other {w w' : World} {base : Nat} {V : Value} {L : List (List Int)} {vs : List Value} (h : LL w base V L vs) (hsz : w.heap.size ≤ w'.heap.size) (hs : ∀ b : Nat, base ≤ b → b < w.heap.size → w'.heap[b]? = w.heap[b]?) : LL w' base V L vs := by
  refine ⟨h.len, own_other h.own (fun b hb => hs b (h.own.lt b hb).1 (h.own.lt b hb).2), fun j x hx => ?_⟩
  obtain ⟨u, h1, h2, h3⟩ := h.rows j x hx
  exact ⟨u, h1, h2.other (fun b hb => hs b (h3 b hb).1 (h3 b hb).2.1), fun b hb => ⟨(h3 b hb).1, Nat.lt_of_lt_of_le (h3 b hb).2.1 hsz, (h3 b hb).2.2⟩⟩
theorem LL.keep {w w' : World} {base : Nat} {V : Value} {L : List (List Int)} {vs : List Value} (h : LL w base V L vs) (hb : Below w.heap.size w w') : LL w' base V L vs := h.other hb.size (fun b _ hb2 => hb.block b hb2)
theorem LL.only {B : Nat} {w w' : World} {base : Nat} {V : Value} {L : List (List Int)} {vs : List Value} (h : LL w base V L vs) (ho : Only B w w') (hB : B < base) : LL w' base V L vs := h.other ho.size (fun b h1 h2 => ho.block b h2 (by omega))

theorem LL.snoc {w w2 : World} {base : Nat} {V V' : Value} {L : List (List Int)} {vs : List Value} (h : LL w base V L vs) {x : List Int} {u : Value} {o : Obj} (hu : IntCap w u x)
    (hub : ∀ b, u.ownBlock = some b → base ≤ b ∧ b < w.heap.size ∧ V.ownBlock ≠ some b) (hown : w2.ownsRow base 37 1 V' (L.length + 1) (vs ++ [u])) (hg : (w.alloc o).grownBy w2 V.ownBlock)
    (hap : ∀ g, V'.ownBlock = some g → V.ownBlock = some g ∨ w.heap.size + 1 ≤ g) : LL w2 base V' (L ++ [x]) (vs ++ [u]) := by
  have hsz : w.heap.size + 1 ≤ w2.heap.size := by have := hg.size; simpa using this
  have key : ∀ b : Nat, b < w.heap.size → V.ownBlock ≠ some b → w2.heap[b]? = w.heap[b]? := by
    intro b hb hne
    rw [hg.block b (by simp; omega) (fun e => hne e.symm), Below.heap_alloc _ _ _ hb]
  refine ⟨by simp [h.len], by simpa using hown, fun j y hy => ?_⟩
  by_cases hj : j < L.length
  · rw [List.getElem?_append_left hj] at hy
    obtain ⟨z, h1, h2, h3⟩ := h.rows j y hy
    refine ⟨z, by rw [List.getElem?_append_left (by rw [h.len]; exact hj)]; exact h1, h2.other (fun b hb => key b (h3 b hb).2.1 (h3 b hb).2.2), fun b hb => ?_⟩
    have h4 := (h3 b hb).2.1
    refine ⟨(h3 b hb).1, by omega, fun e => ?_⟩
    rcases hap b e with e' | e'
    · exact (h3 b hb).2.2 e'
    · omega
  · have hjL : j = L.length := by
      have := (List.getElem?_eq_some_iff.1 hy).1
      simp at this; omega
    subst hjL
    rw [List.getElem?_append_right (Nat.le_refl _), Nat.sub_self] at hy
    simp at hy
    subst hy
    refine ⟨u, by rw [List.getElem?_append_right (by rw [h.len]; exact Nat.le_refl _), h.len]; simp, hu.other (fun b hb => key b (hub b hb).2.1 (hub b hb).2.2), fun b hb => ?_⟩
    have h4 := (hub b hb).2.1
    refine ⟨(hub b hb).1, by omega, fun e => ?_⟩
    rcases hap b e with e' | e'
    · exact (hub b hb).2.2 e'
    · omega

/-- A list of lists in memory that is new: from block B on, its rows too. -/
def LstNew (B : Nat) (w : World) (v : Value) (L : List (List Int)) : Prop :=
  ∃ ao b off cap, v = .slice ao L.length cap ∧ (L ≠ [] → ao = some ⟨b, off, none⟩) ∧ (ao = none → L = [] ∧ cap = 0) ∧ B ≤ b ∧
    ∀ (k : Nat) (x : List Int), L[k]? = some x → ∃ u, w.cell? ⟨b, off + k, none⟩ = some u ∧ IntCap w u x ∧ ∀ g, u.ownBlock = some g → B ≤ g ∧ g < w.heap.size

theorem LL.read {w : World} {base : Nat} {V : Value} {L : List (List Int)} {vs : List Value} (h : LL w base V L vs) : LstNew base w V L := by
  rcases h.own.2 with ⟨hv, hn⟩ | ⟨g, cap, cur, hv, hg, hh, _⟩
  · have h0 : L = [] := List.eq_nil_of_length_eq_zero hn
    subst h0
    exact ⟨none, base, 0, 0, hv, fun h => absurd rfl h, fun _ => ⟨rfl, rfl⟩, Nat.le_refl _, fun k x h => by simp at h⟩
  · refine ⟨_, g, 0, cap, hv, fun _ => rfl, fun h => by simp at h, hg, fun k x hk => ?_⟩
    obtain ⟨u, h1, h2, h3⟩ := h.rows k x hk
    have := h.own.cells (g := g) (by rw [hv]; rfl) k u h1
    rw [Addr.add_lit] at this
    exact ⟨u, this, h2, fun b hb => ⟨(h3 b hb).1, (h3 b hb).2.1⟩⟩

theorem LstNew.at' {B : Nat} {w : World} {v : Value} {L : List (List Int)} (h : LstNew B w v L) : LstAt w v L := by
  obtain ⟨ao, b, off, cap, hv, ha, hn, _, hc⟩ := h
  refine ⟨ao, b, off, cap, hv, ha, hn, fun k x hx => ?_⟩
  obtain ⟨u, h1, h2, _⟩ := hc k x hx
  rw [Nat.mul_one]
  exact ⟨u, h1, h2.at'⟩
theorem LstNew.caps {B : Nat} {w : World} {v : Value} {L : List (List Int)} (h : LstNew B w v L) : ∃ ao b off cap, SlAt w 1 LCC v L ao b off cap := by
  obtain ⟨ao, b, off, cap, hv, ha, hn, _, hc⟩ := h
  refine ⟨ao, b, off, cap, hv, ha, hn, fun k x hx => ?_⟩
  obtain ⟨u, h1, h2, _⟩ := hc k x hx
  rw [Nat.mul_one]
  exact ⟨u, h1, h2⟩

/-- What is left of a slice behind its first k entries. -/
theorem intCap_drop {w : World} {l : List Int} {b off cap : Nat} (h : SlAt w 1 IntC (.slice (some ⟨b, off, none⟩) l.length cap) l (some ⟨b, off, none⟩) b off cap) (hc : l.length ≤ cap) {k : Nat} (hk : k ≤ l.length) :
    IntCap w (.slice (if cap = k then (some ⟨b, off, none⟩ : Option Addr) else some ⟨b, off + k, none⟩) (l.length - k) (cap - k)) (l.drop k) := by
  by_cases e : cap = k
  · rw [if_pos e]
    have hd : l.drop k = [] := List.drop_eq_nil_of_le (by omega)
    rw [hd]
    exact ⟨_, b, off, _, ⟨by rw [show l.length - k = 0 by omega]; rfl, fun h => absurd rfl h, fun h => by simp at h, fun k x h => by simp at h⟩, Nat.zero_le _⟩
  · rw [if_neg e]
    refine ⟨_, b, off + k, _, ⟨by rw [List.length_drop], fun _ => rfl, fun h => by simp at h, fun j x hx => ?_⟩, by rw [List.length_drop]; omega⟩
    rw [List.getElem?_drop] at hx
    have := h.hc (k + j) x hx
    unfold IntC at this ⊢
    rw [Nat.mul_one] at this ⊢
    rw [Nat.add_assoc]; exact this

end Go.Proofs.Ytomijmikkbhgmaa

namespace Go.Proofs.Ytomijmikkbhgmaa
open Go.RowKit

set_option maxHeartbeats 1000000 in
theorem sameInts_any (l : List Int) (hl : l.length ≤ 100000) (u v : Value) (w : World) (hu : IntAt w u l) (hv : IntAt w v l) :
    Calls Try.prog 44 #[u, v] w fun e w' => e = .returned (.bool true) ∧ Below w.heap.size w w' := by
  obtain ⟨ao, b, off, cap, hv1, ha, _, hc⟩ := hu
  obtain ⟨ao2, b2, off2, cap2, hv2, ha2, _, hc2⟩ := hv
  subst hv1 hv2
  have HC : Hid ((∀ k x, l[k]? = some x → IntC w b (off + k * 1) x) ∧ (∀ k x, l[k]? = some x → IntC w b2 (off2 + k * 1) x)) := ⟨hc, hc2⟩
  clear hc hc2
  have k0 : ((l.length : Int) != (l.length : Int)) = false := by simp
  go_enter Try.func44, Try.ntmps44
  go_wp2_with fail
  go_loopw [5] (fun i wr => ∃ k : Nat, k ≤ l.length ∧ i = .int .i64 k ∧ Below w.heap.size w wr) (fun i _ => l.length - (intOf i).toNat)
  case atStart => exact ⟨0, Nat.zero_le _, rfl, Below.refl _ _⟩
  case round =>
    obtain ⟨k, hk, rfl, hb⟩ := hrel
    by_cases hlt : k < l.length
    · obtain ⟨x, hx⟩ := get_of_lt hlt
      obtain rfl := ha (ne_nil hlt)
      obtain rfl := ha2 (ne_nil hlt)
      have c0 := intC_keeps _ _ _ _ _ hb (HC.out.1 k x hx)
      have d0 := intC_keeps _ _ _ _ _ hb (HC.out.2 k x hx)
      unfold IntC at c0 d0
      rw [Nat.mul_one] at c0 d0
      have n0 : (x != x) = false := by simp
      have hkI : (k : Int) < (l.length : Int) := by omega
      clear hx
      go_wp2_with fail
      go_quiet (fail)
      go_wp2_with fail
      go_roundw
      case measure => simp [intOf]; omega
      case rel => exact ⟨k + 1, by omega, by go_num, below_drewN hb _⟩
    · go_wp2_with fail
      go_ret
      exact ⟨rfl, hb⟩

set_option maxHeartbeats 1000000 in
theorem sameLists_any (L : List (List Int)) (hL : L.length ≤ 100000) (hl : ∀ x ∈ L, x.length ≤ 100000) (u v : Value) (w : World) (hu : LstAt w u L) (hv : LstAt w v L) :
    Calls Try.prog 45 #[u, v] w fun e w' => e = .returned (.bool true) ∧ Below w.heap.size w w' := by
  obtain ⟨ao, b, off, cap, hv1, ha, _, hc⟩ := hu
  obtain ⟨ao2, b2, off2, cap2, hv2, ha2, _, hc2⟩ := hv
  subst hv1 hv2
  have HC : Hid ((∀ k x, L[k]? = some x → LC w b (off + k * 1) x) ∧ (∀ k x, L[k]? = some x → LC w b2 (off2 + k * 1) x) ∧ ∀ x ∈ L, x.length ≤ 100000) := ⟨hc, hc2, hl⟩
  clear hc hc2 hl
  have k0 : ((L.length : Int) != (L.length : Int)) = false := by simp
  go_enter Try.func45, Try.ntmps45
  go_wp2_with fail
  go_loopw [5] (fun i wr => ∃ k : Nat, k ≤ L.length ∧ i = .int .i64 k ∧ Below w.heap.size w wr) (fun i _ => L.length - (intOf i).toNat)
  case atStart => exact ⟨0, Nat.zero_le _, rfl, Below.refl _ _⟩
  case round =>
    obtain ⟨k, hk, rfl, hb⟩ := hrel
    by_cases hlt : k < L.length
    · obtain ⟨x, hx⟩ := get_of_lt hlt
      obtain rfl := ha (ne_nil hlt)
      obtain rfl := ha2 (ne_nil hlt)
      obtain ⟨u1, c0, i1⟩ := lc_keeps _ _ _ _ _ hb (HC.out.1 k x hx)
      obtain ⟨u2, d0, i2⟩ := lc_keeps _ _ _ _ _ hb (HC.out.2.1 k x hx)
      rw [Nat.mul_one] at c0 d0
      have HI : Hid (IntAt wr u1 x ∧ IntAt wr u2 x ∧ x.length ≤ 100000) := ⟨i1, i2, HC.out.2.2 x (List.mem_of_getElem? hx)⟩
      have hkI : (k : Int) < (L.length : Int) := by omega
      clear hx i1 i2
      go_wp2_with fail
      go_region_with (go_at_call 44; refine (sameInts_any x HI.out.2.2 u1 u2 _ (HI.out.1.keep (Below.refl _ _).drew) (HI.out.2.1.keep (Below.refl _ _).drew)).mono ?_; rintro e w5 ⟨rfl, hb5⟩)
      all_goals
        go_wp2_with fail
        go_roundw
        case measure => simp [intOf]; omega
        case rel => exact ⟨k + 1, by omega, by go_num, below_more hb.drew hb5⟩
    · go_wp2_with fail
      go_ret
      exact ⟨rfl, hb⟩

set_option maxHeartbeats 1000000 in
theorem sameExec_any (x : Exe) (h1 : x.from'.length ≤ 100000) (h2 : x.order.length ≤ 100000) (h3 : ∀ y ∈ x.order, y.length ≤ 100000) (f1 o1 f2 o2 : Value) (w : World) (hu : ExeAt w f1 o1 x) (hv : ExeAt w f2 o2 x) :
    Calls Try.prog 19 #[.agg #[f1, o1], .agg #[f2, o2]] w fun e w' => e = .returned (.bool true) ∧ Below w.heap.size w w' := by
  have HU : Hid (ExeAt w f1 o1 x ∧ ExeAt w f2 o2 x) := ⟨hu, hv⟩
  clear hu hv
  go_enter Try.func19, Try.ntmps19
  go_wp2_with fail
  refine (sameInts_any x.from' h1 f1 f2 _ (HU.out.1.f.keep (below_two _ _ _)) (HU.out.2.f.keep (below_two _ _ _))).mono ?_
  rintro e w3 ⟨rfl, hb3⟩
  have e0 := keep_cell hb3 (b := w.heap.size) (off := 1) (u := o1) (by simp)
  have e1 := keep_cell hb3 (b := w.heap.size + 1) (off := 1) (u := o2) (by simp)
  have hbw := below_more (below_two _ _ _) hb3
  clear hb3
  go_wp2_with fail
  refine (sameLists_any x.order h2 h3 o1 o2 _ (HU.out.1.o.keep hbw) (HU.out.2.o.keep hbw)).mono ?_
  rintro e w4 ⟨rfl, hb4⟩
  go_wp2_with fail
  go_ret
  exact ⟨rfl, below_more hbw hb4⟩

end Go.Proofs.Ytomijmikkbhgmaa

namespace Go.Proofs.Ytomijmikkbhgmaa

/-- All arrows lead between events. -/
def Arws (n : Nat) (A : List (Int × Int)) : Prop := ∀ p ∈ A, ∃ a b : Nat, a < n ∧ b < n ∧ p = ((a : Int), (b : Int))

/-- To each event of the set an arrow leads from within it. -/
def Core (n : Nat) (A : List (Int × Int)) (S : Nat → Prop) : Prop := ∀ b, b < n → S b → ∃ a : Nat, a < n ∧ S a ∧ ((a : Int), (b : Int)) ∈ A

def Cyc (n : Nat) (A : List (Int × Int)) : Prop := ∃ S : Nat → Prop, (∃ b, b < n ∧ S b) ∧ Core n A S

theorem Cyc.mono {n : Nat} {A B : List (Int × Int)} (h : Cyc n A) (hs : ∀ p ∈ A, p ∈ B) : Cyc n B := by
  obtain ⟨S, h1, h2⟩ := h
  refine ⟨S, h1, fun b hb hS => ?_⟩
  obtain ⟨a, k1, k2, k3⟩ := h2 b hb hS
  exact ⟨a, k1, k2, hs _ k3⟩

/-- Does an arrow lead to an event from one that is still there? -/
def ldB (g : Nat → Bool) (to : Int) (A : List (Int × Int)) : Bool := A.any fun p => p.2 == to && !g p.1.toNat

theorem ldB_iff {n : Nat} {A : List (Int × Int)} (hA : Arws n A) (g : Nat → Bool) (b : Nat) : ldB g (b : Int) A = true ↔ ∃ a : Nat, a < n ∧ g a = false ∧ ((a : Int), (b : Int)) ∈ A := by
  unfold ldB
  rw [List.any_eq_true]
  constructor
  · rintro ⟨p, hp, h⟩
    obtain ⟨a, c, ha, _, rfl⟩ := hA p hp
    simp only [Bool.and_eq_true, beq_iff_eq, Bool.not_eq_true', Int.toNat_natCast] at h
    obtain ⟨h1, h2⟩ := h
    rw [h1] at hp
    exact ⟨a, ha, h2, hp⟩
  · rintro ⟨a, _, h2, h3⟩
    exact ⟨_, h3, by simp [h2]⟩

/-- How many are still there. -/
def stay (n : Nat) (g : Nat → Bool) : Nat := ((List.range n).filter fun i => !g i).length

def take1 (g : Nat → Bool) (i : Nat) : Nat → Bool := fun j => if j = i then true else g j

theorem stay_take {n : Nat} {g : Nat → Bool} {i : Nat} (hi : i < n) (hg : g i = false) : stay n (take1 g i) + 1 = stay n g := by
  unfold stay take1
  induction n with
  | zero => omega
  | succ n ih =>
    rw [List.range_succ, List.filter_append, List.filter_append, List.length_append, List.length_append]
    by_cases e : i = n
    · subst e
      have h1 : (List.range i).filter (fun j => !(if j = i then true else g j)) = (List.range i).filter (fun j => !g j) := by
        refine List.filter_congr fun j hj => ?_
        have : j < i := by simpa using hj
        rw [if_neg (by omega)]
      rw [h1]
      simp [hg]
    · have := ih (by omega)
      have h2 : ¬ n = i := fun h => e h.symm
      simp only [List.filter_cons, List.filter_nil, if_neg h2]
      omega

theorem stay_zero {n : Nat} {g : Nat → Bool} (h : stay n g = 0) : ∀ i, i < n → g i = true := by
  intro i hi
  cases hg : g i
  · have := stay_take hi hg; omega
  · rfl

theorem stay_all (n : Nat) : stay n (fun _ => false) = n := by
  show ((List.range n).filter fun _ => true).length = n
  rw [List.filter_eq_self.2 (fun _ _ => rfl), List.length_range]

theorem stay_le (n : Nat) (g : Nat → Bool) : stay n g ≤ n := by
  unfold stay
  have := List.length_filter_le (fun i => !g i) (List.range n)
  simpa using this

theorem stay_pos {n : Nat} {g : Nat → Bool} (h : 0 < stay n g) : ∃ i, i < n ∧ g i = false := by
  unfold stay at h
  obtain ⟨i, hi⟩ := List.exists_mem_of_length_pos h
  rw [List.mem_filter] at hi
  exact ⟨i, by simpa using hi.1, by simpa using hi.2⟩

/-- Nothing more can be taken away. -/
def Stable (n : Nat) (A : List (Int × Int)) (g : Nat → Bool) : Prop := ∀ b, b < n → g b = false → ldB g (b : Int) A = true

/-- No set that keeps itself has lost anything. -/
def Safe (n : Nat) (A : List (Int × Int)) (g : Nat → Bool) : Prop := ∀ S, Core n A S → ∀ b, b < n → S b → g b = false

theorem Safe.start (n : Nat) (A : List (Int × Int)) : Safe n A (fun _ => false) := fun _ _ _ _ _ => rfl

theorem Safe.take {n : Nat} {A : List (Int × Int)} {g : Nat → Bool} (hA : Arws n A) (h : Safe n A g) {i : Nat} (hl : ldB g (i : Int) A = false) : Safe n A (take1 g i) := by
  intro S hS b hb hSb
  unfold take1
  by_cases e : b = i
  · subst e
    obtain ⟨a, ha, hSa, hm⟩ := hS b hb hSb
    have := (ldB_iff hA g b).2 ⟨a, ha, h S hS a ha hSa, hm⟩
    rw [hl] at this
    cases this
  · rw [if_neg e]; exact h S hS b hb hSb

/-- In the midst of a turn. -/
structure Turn (n : Nat) (A : List (Int × Int)) (t i : Nat) (g : Nat → Bool) : Prop where
  safe : Safe n A g
  step : stay n g + (t + 1) ≤ n ∨ (stay n g + t ≤ n ∧ ∀ b, b < i → g b = false → ldB g (b : Int) A = true) ∨ Stable n A g

theorem Turn.first (n : Nat) (A : List (Int × Int)) : Turn n A 0 0 (fun _ => false) := ⟨Safe.start n A, .inr (.inl ⟨by rw [stay_all]; omega, fun b hb => by omega⟩)⟩

theorem Turn.gone {n : Nat} {A : List (Int × Int)} {t i : Nat} {g : Nat → Bool} (h : Turn n A t i g) (hg : g i = true) : Turn n A t (i + 1) g := by
  refine ⟨h.safe, ?_⟩
  rcases h.step with h1 | ⟨h1, h2⟩ | h1
  · exact .inl h1
  · refine .inr (.inl ⟨h1, fun b hb hgb => ?_⟩)
    by_cases e : b = i
    · subst e; rw [hg] at hgb; cases hgb
    · exact h2 b (by omega) hgb
  · exact .inr (.inr h1)

theorem Turn.stays {n : Nat} {A : List (Int × Int)} {t i : Nat} {g : Nat → Bool} (h : Turn n A t i g) (hl : ldB g (i : Int) A = true) : Turn n A t (i + 1) g := by
  refine ⟨h.safe, ?_⟩
  rcases h.step with h1 | ⟨h1, h2⟩ | h1
  · exact .inl h1
  · refine .inr (.inl ⟨h1, fun b hb hgb => ?_⟩)
    by_cases e : b = i
    · subst e; exact hl
    · exact h2 b (by omega) hgb
  · exact .inr (.inr h1)

theorem Turn.takes {n : Nat} {A : List (Int × Int)} (hA : Arws n A) {t i : Nat} {g : Nat → Bool} (h : Turn n A t i g) (hi : i < n) (hg : g i = false) (hl : ldB g (i : Int) A = false) : Turn n A t (i + 1) (take1 g i) := by
  have hs := stay_take hi hg
  refine ⟨h.safe.take hA hl, ?_⟩
  rcases h.step with h1 | ⟨h1, _⟩ | h1
  · exact .inl (by omega)
  · exact .inl (by omega)
  · have := h1 i hi hg
    rw [hl] at this
    cases this

theorem Turn.next {n : Nat} {A : List (Int × Int)} {t : Nat} {g : Nat → Bool} (h : Turn n A t n g) : Turn n A (t + 1) 0 g := by
  refine ⟨h.safe, ?_⟩
  rcases h.step with h1 | ⟨_, h2⟩ | h1
  · exact .inr (.inl ⟨h1, fun b hb => by omega⟩)
  · exact .inr (.inr h2)
  · exact .inr (.inr h1)

theorem Turn.last {n : Nat} {A : List (Int × Int)} (hA : Arws n A) {g : Nat → Bool} (h : Turn n A n 0 g) : decide (0 < stay n g) = true ↔ Cyc n A := by
  rw [decide_eq_true_eq]
  constructor
  · intro h0
    rcases h.step with h1 | ⟨h1, _⟩ | h1
    · omega
    · omega
    · obtain ⟨i, hi, hgi⟩ := stay_pos h0
      refine ⟨fun b => g b = false, ⟨i, hi, hgi⟩, fun b hb hgb => ?_⟩
      exact (ldB_iff hA g b).1 (h1 b hb hgb)
  · rintro ⟨S, ⟨b, hb, hSb⟩, hS⟩
    refine Nat.pos_of_ne_zero fun h0 => ?_
    have h1 := stay_zero h0 b hb
    rw [h.safe S hS b hb hSb] at h1
    cases h1

end Go.Proofs.Ytomijmikkbhgmaa

namespace Go.Proofs.Ytomijmikkbhgmaa
open Go.RowKit

structure ArwC (w : World) (b off : Nat) (p : Int × Int) : Prop where
  c0 : w.cell? ⟨b, off, none⟩ = some (.int .i64 p.1)
  c1 : w.cell? ⟨b, off + 1, none⟩ = some (.int .i64 p.2)
theorem arwC_keeps : Keeps ArwC := fun _ _ _ _ _ hb h => ⟨keep_cell hb h.c0, keep_cell hb h.c1⟩
def ArwAt (w : World) (v : Value) (l : List (Int × Int)) : Prop := ∃ ao b off cap, SlAt w 2 ArwC v l ao b off cap
theorem ArwAt.keep {w w' : World} {v : Value} {l : List (Int × Int)} (h : ArwAt w v l) (hb : Below w.heap.size w w') : ArwAt w' v l := by
  obtain ⟨ao, b, off, cap, h⟩ := h
  exact ⟨ao, b, off, cap, h.keep arwC_keeps hb⟩

theorem Try.infoBool : (Try.prog.info? 4).map (fun i => (i.zero, i.size, i.bytes)) = some (some (.bool false), 1, 1) := by kernel_rfl

theorem ldB_hit {g : Nat → Bool} {to : Int} {p : Int × Int} (A : List (Int × Int)) (h1 : p.2 = to) (h2 : g p.1.toNat = false) : ldB g to (p :: A) = true := by simp [ldB, h1, h2]
theorem ldB_mis {g : Nat → Bool} {to : Int} {p : Int × Int} (A : List (Int × Int)) (h : p.2 = to → g p.1.toNat = true) : ldB g to (p :: A) = ldB g to A := by
  unfold ldB
  rw [List.any_cons]
  by_cases e : p.2 = to
  · simp [e, h e]
  · simp [e]

set_option maxHeartbeats 1000000 in
theorem leads_any (n : Nat) (_hn : n ≤ 100000) (A : List (Int × Int)) (hA : Arws n A) (hl : A.length ≤ 1000000) (g : Nat → Bool) (bT : Nat) (to : Int) (v : Value) (w : World) (h : ArwAt w v A) (hr : w.rowIs bT 4 n (fun i => .bool (g i))) :
    Calls Try.prog 131 #[v, .slice (some ⟨bT, 0, none⟩) n n, .int .i64 to] w fun e w' => e = .returned (.bool (ldB g to A)) ∧ w' = w := by
  obtain ⟨ao, b, off, cap, hv, ha, _, hc⟩ := h
  subst hv
  have HC : Hid ((∀ k p, A[k]? = some p → ArwC w b (off + k * 2) p) ∧ Arws n A ∧ w.rowIs bT 4 n (fun i => .bool (g i))) := ⟨hc, hA, hr⟩
  generalize hB : ldB g to A = B
  have HB : Hid (B = ldB g to (A.drop 0)) := hB.symm
  clear hc hA hr hB
  go_enter Try.func131, Try.ntmps131
  go_wp2_with fail
  go_loop [7] (fun i => ∃ k : Nat, k ≤ A.length ∧ i = .int .i64 k ∧ Hid (B = ldB g to (A.drop k))) (fun i => A.length - (intOf i).toNat)
  case atStart => exact ⟨0, Nat.zero_le _, rfl, HB.out⟩
  case round =>
    clear HB
    obtain ⟨k, hk, rfl, hn2⟩ := hrel
    by_cases hlt : k < A.length
    · obtain ⟨p, hp⟩ := get_of_lt hlt
      obtain ⟨a, c, ha3, hc3, rfl⟩ := HC.out.2.1 p (List.mem_of_getElem? hp)
      have hN : Hid (B = ldB g to (((a : Int), (c : Int)) :: A.drop (k + 1))) := by rw [← drop_cons hp]; exact hn2
      obtain ⟨c0, c1⟩ := HC.out.1 k _ hp
      obtain rfl := ha (ne_nil hlt)
      simp only at c0 c1
      have r0 := HC.out.2.2.cell ha3
      have haI : (a : Int) < (n : Int) := by omega
      have hkI : (k : Int) < (A.length : Int) := by omega
      clear hn2 hp
      cases h1 : ((c : Int) == to)
      · have HM : Hid (B = ldB g to (A.drop (k + 1))) := hN.out.trans (ldB_mis _ (fun e => by simp at h1; exact absurd e h1))
        clear hN
        go_wp2_with fail
        go_round
        case measure => simp [intOf]; omega
        case rel => exact ⟨k + 1, by omega, by go_num, HM.out⟩
      · cases h2 : g a
        · have HM : Hid (B = true) := hN.out.trans (ldB_hit _ (by simpa using h1) (by simpa using h2))
          clear hN
          go_wp2_with fail
          go_ret
          exact ⟨by rw [HM.out]; rfl, rfl⟩
        · have HM : Hid (B = ldB g to (A.drop (k + 1))) := hN.out.trans (ldB_mis _ (fun _ => by simpa using h2))
          clear hN
          go_wp2_with fail
          go_round
          case measure => simp [intOf]; omega
          case rel => exact ⟨k + 1, by omega, by go_num, HM.out⟩
    · have HM : Hid (B = false) := hn2.out.trans (by rw [drop_nil hlt]; rfl)
      clear hn2
      go_wp2_with fail
      go_ret
      exact ⟨by rw [HM.out]; rfl, rfl⟩

end Go.Proofs.Ytomijmikkbhgmaa

namespace Go.Proofs.Ytomijmikkbhgmaa
open Go.RowKit

/-- The reads: their numbers, and they themselves. -/
def rdsX : List Evt → Nat → List (Nat × Evt)
  | [], _ => []
  | x :: E, i => if x.kind == 0 then (i, x) :: rdsX E (i + 1) else rdsX E (i + 1)
def rdsI (E : List Evt) (i : Nat) : List Int := (rdsX E i).map fun p => (p.1 : Int)

theorem rdsX_hit {x : Evt} (h : (x.kind == 0) = true) (E : List Evt) (i : Nat) : rdsX (x :: E) i = (i, x) :: rdsX E (i + 1) := by rw [rdsX, if_pos h]
theorem rdsX_mis {x : Evt} (h : (x.kind == 0) = false) (E : List Evt) (i : Nat) : rdsX (x :: E) i = rdsX E (i + 1) := by rw [rdsX, if_neg (by simp [h])]

theorem rdo_eq (E R : List Evt) (i : Nat) : rdo E R = (rdsX R i).map fun p => -1 :: wrs E 0 p.2.loc := by
  induction R generalizing i with
  | nil => rfl
  | cons x R ih =>
    cases h : x.kind == 0
    · rw [rdsX_mis h, rdo, if_neg (by simp [h])]; exact ih (i + 1)
    · rw [rdsX_hit h, rdo, if_pos h, List.map_cons, ih (i + 1)]

theorem rdsX_get {R : List Evt} {i : Nat} {p : Nat × Evt} (h : p ∈ rdsX R i) : i ≤ p.1 ∧ R[p.1 - i]? = some p.2 := by
  induction R generalizing i with
  | nil => simp [rdsX] at h
  | cons x R ih =>
    have key : p ∈ rdsX R (i + 1) → i ≤ p.1 ∧ (x :: R)[p.1 - i]? = some p.2 := by
      intro hp
      obtain ⟨h1, h2⟩ := ih hp
      refine ⟨by omega, ?_⟩
      rw [show p.1 - i = (p.1 - (i + 1)) + 1 by omega]
      simpa using h2
    cases hk : x.kind == 0
    · rw [rdsX_mis hk] at h; exact key h
    · rw [rdsX_hit hk] at h
      rcases List.mem_cons.1 h with rfl | h
      · simp
      · exact key h

theorem rdsX_len (R : List Evt) (i : Nat) : (rdsX R i).length ≤ R.length := by
  induction R generalizing i with
  | nil => simp [rdsX]
  | cons x R ih => have := ih (i + 1); unfold rdsX; split <;> simp <;> omega

set_option maxHeartbeats 1000000 in
theorem reads_any (E : List Evt) (hE : E.length ≤ 96) (v : Value) (w : World) (h : Ev9At w v E) :
    Calls Try.prog 86 #[v] w fun e w' => ∃ u, e = .returned u ∧ IntNew w.heap.size w' u (rdsI E 0) ∧ Below w.heap.size w w' := by
  obtain ⟨ao, b, off, cap, hv, ha, _, hc⟩ := h
  subst hv
  obtain ⟨i0, hi, hz0, hz1, hz2⟩ := info_parts Try.info3
  have HI : Hid (Try.prog.info? 3 = some i0 ∧ i0.zero = some (.int .i64 0) ∧ i0.size = 1 ∧ i0.bytes = 8) := ⟨hi, hz0, hz1, hz2⟩
  clear hi hz0 hz1 hz2
  go_enter Try.func86, Try.ntmps86
  go_wp2_with fail
  go_loopw [3, 4] (fun u i wr => ∃ (k : Nat) (xs : List Int), k ≤ E.length ∧ i = .int .i64 k ∧ xs.length ≤ k ∧ Hid (rdsI E 0 = xs ++ rdsI (E.drop k) k) ∧ wr.ownsRow w.heap.size 3 1 u xs.length (xs.map (Value.int .i64)) ∧ Below w.heap.size w wr) (fun _ i _ => E.length - (intOf i).toNat)
  case atStart => exact ⟨0, [], Nat.zero_le _, rfl, Nat.le_refl _, rfl, World.ownsRow_nil _ _ _ _, Below.refl _ _⟩
  case round =>
    obtain ⟨k, xs, hk, rfl, hxk, hn, hown, hb⟩ := hrel
    have hsz := hb.size
    by_cases hlt : k < E.length
    · obtain ⟨x, hx⟩ := get_of_lt hlt
      have hC := hc k x hx
      have hbl := hC.lt
      obtain rfl := ha (ne_nil hlt)
      obtain ⟨_, _, c2, _, _, _, _, _, _⟩ := ev9C_keeps _ _ _ _ _ hb hC
      have HN : Hid (rdsI E 0 = xs ++ rdsI (x :: E.drop (k + 1)) k) := by rw [← drop_cons hx]; exact hn
      have HC : Hid (∀ k x, E[k]? = some x → Ev9C w b (off + k * 9) x) := hc
      clear hn hx hc hC ha
      cases h1 : x.kind == 0
      · have HM : Hid (rdsI E 0 = xs ++ rdsI (E.drop (k + 1)) (k + 1)) := HN.out.trans (by unfold rdsI; rw [rdsX_mis h1])
        go_wp2_with fail
        go_roundw
        case measure => simp [intOf]; omega
        case rel => exact ⟨k + 1, xs, by omega, by go_num, by omega, HM.out, hown, hb⟩
      · have HM : Hid (rdsI E 0 = (xs ++ [(k : Int)]) ++ rdsI (E.drop (k + 1)) (k + 1)) := HN.out.trans (by unfold rdsI; rw [rdsX_hit h1]; simp)
        go_wp2_with (at_builtin; refine append_new _ rfl (.tmp 17) (.tmp 19) 37 rfl w.heap.size 3 i0 (.int .i64 0) 1 8 Try.underlying37 HI.out.1 HI.out.2.1 HI.out.2.2.1 HI.out.2.2.2 rfl (by decide) u3 xs.length (xs.map (Value.int .i64)) rfl (hown.alloc _) (some ⟨wr.heap.size, 0, none⟩) 1 1 [.int .i64 k] rfl (fun h => by cases h) rfl (fun ad had => by cases had; exact new_one rfl) (by simp [Value.oneCell']) (by unfold maxLen; omega) (by omega) (by simp; omega) ?_)
        intro u' w1 hown' hgrow _
        have hb' : Below w.heap.size w w1 := Below.grown (hb.alloc hsz _) hgrow (by simp; omega) (fun kk e => (hown.lt kk e).1)
        have HO : Hid (w1.ownsRow w.heap.size 3 1 u' (xs ++ [(k : Int)]).length ((xs ++ [(k : Int)]).map (Value.int .i64))) := own_snoc hown'
        clear hgrow hown hown'
        go_wp2_with fail
        go_roundw
        case measure => simp [intOf]; omega
        case rel => exact ⟨k + 1, xs ++ [(k : Int)], by omega, by go_num, by simp; omega, HM.out, HO.out, hb'⟩
    · have HM : Hid (rdsI E 0 = xs) := hn.out.trans (by rw [drop_nil hlt]; simp [rdsI, rdsX])
      clear hn hc ha
      go_wp2_with fail
      go_ret
      exact ⟨_, rfl, by rw [HM.out]; exact owns_int hown, hb⟩

theorem int_cells {w : World} {v : Value} {l : List Int} {ao : Option Addr} {b off cap : Nat} (h : SlAt w 1 IntC v l ao b off cap) : ∀ ad, ao = some ad → ∀ j u, (l.map (Value.int .i64))[j]? = some u → w.cell? (ad.add j) = some u := by
  intro ad had j u hj
  rw [List.getElem?_map] at hj
  obtain ⟨x, hx, rfl⟩ := Option.map_eq_some_iff.1 hj
  have hk : j < l.length := (List.getElem?_eq_some_iff.1 hx).1
  rw [h.ha (ne_nil hk)] at had
  cases had
  have hC := h.hc j x hx
  unfold IntC at hC
  rw [Nat.mul_one] at hC
  rw [Addr.add_lit]; exact hC

set_option maxHeartbeats 1000000 in
theorem longer_any (l : List Int) (hl : l.length ≤ 100000) (x : Int) (v : Value) (w : World) (h : IntAt w v l) :
    Calls Try.prog 87 #[v, .int .i64 x] w fun e w' => ∃ u, e = .returned u ∧ IntOwn w.heap.size w' u (l ++ [x]) ∧ Below w.heap.size w w' := by
  obtain ⟨ao, b, off, cap, hs⟩ := h
  have hv := hs.hv
  subst hv
  have HS : Hid (SlAt w 1 IntC (.slice ao l.length cap) l ao b off cap) := hs
  clear hs
  obtain ⟨i0, hi, hz0, hz1, hz2⟩ := info_parts Try.info3
  have HI : Hid (Try.prog.info? 3 = some i0 ∧ i0.zero = some (.int .i64 0) ∧ i0.size = 1 ∧ i0.bytes = 8) := ⟨hi, hz0, hz1, hz2⟩
  clear hi hz0 hz1 hz2
  go_enter Try.func87, Try.ntmps87
  go_wp2_with (at_builtin; refine append_new _ rfl (.tmp 6) (.tmp 7) 37 rfl w.heap.size 3 i0 (.int .i64 0) 1 8 Try.underlying37 HI.out.1 HI.out.2.1 HI.out.2.2.1 HI.out.2.2.2 rfl (by decide) (.slice none 0 0) 0 [] rfl (World.ownsRow_nil _ _ _ _) ao l.length cap (l.map (Value.int .i64)) rfl (fun h => ⟨by rw [(HS.out.hn h).1]; rfl, (HS.out.hn h).2⟩) (by simp) (int_cells HS.out) (ints_oneCell .i64 l) (by unfold maxLen; omega) (by omega) (Nat.le_refl _) ?_)
  intro v1 w1 hown1 hgrow1 _
  have hb1 : Below w.heap.size w w1 := Below.grown (Below.refl _ _) hgrow1 (Nat.le_refl _) (fun kk e => by simp [Value.ownBlock] at e)
  have hw1 : w1.ownsRow w.heap.size 3 1 v1 l.length (l.map (Value.int .i64)) := by simpa using hown1
  have hs1 := hb1.size
  clear hown1 hgrow1
  go_wp2_with (at_builtin; refine append_new _ rfl (.tmp 9) (.tmp 11) 37 rfl w.heap.size 3 i0 (.int .i64 0) 1 8 Try.underlying37 HI.out.1 HI.out.2.1 HI.out.2.2.1 HI.out.2.2.2 rfl (by decide) v1 l.length (l.map (Value.int .i64)) rfl (hw1.alloc _) (some ⟨w1.heap.size, 0, none⟩) 1 1 [.int .i64 x] rfl (fun h => by cases h) rfl (fun ad had => by cases had; exact new_one rfl) (by simp [Value.oneCell']) (by unfold maxLen; omega) (by omega) (by simp; omega) ?_)
  intro v2 w2 hown2 hgrow2 _
  have hb2 : Below w.heap.size w w2 := Below.grown (hb1.alloc hs1 _) hgrow2 (by simp; omega) (fun kk e => (hw1.lt kk e).1)
  have hw2 : w2.ownsRow w.heap.size 3 1 v2 (l ++ [x]).length ((l ++ [x]).map (Value.int .i64)) := own_snoc hown2
  clear hown2 hgrow2 hw1
  go_wp2_with fail
  go_ret
  exact ⟨_, rfl, owns_own hw2, hb2⟩

end Go.Proofs.Ytomijmikkbhgmaa

namespace Go.Proofs.Ytomijmikkbhgmaa

def restG : List Int → Int → List Int
  | [], _ => []
  | x :: l, w => if x == w then l else restG l w
/-- What stands behind a write (-1: everything) in a list. -/
def restL (l : List Int) (w : Int) : List Int := if w == -1 then l else restG l w

theorem restG_len (l : List Int) (w : Int) : (restG l w).length ≤ l.length := by
  induction l with
  | nil => simp [restG]
  | cons x l ih => unfold restG; split <;> simp <;> omega
theorem restL_len (l : List Int) (w : Int) : (restL l w).length ≤ l.length := by
  unfold restL; split
  · exact Nat.le_refl _
  · exact restG_len l w

theorem restG_mem {l : List Int} {w v : Int} (h : v ∈ restG l w) : v ∈ l := by
  induction l with
  | nil => simp [restG] at h
  | cons x l ih =>
    unfold restG at h
    split at h
    · exact List.mem_cons_of_mem _ h
    · exact List.mem_cons_of_mem _ (ih h)
theorem restL_mem {l : List Int} {w v : Int} (h : v ∈ restL l w) : v ∈ l := by
  unfold restL at h
  split at h
  · exact h
  · exact restG_mem h

def fanL (f : Int) (l : List Int) : List (Int × Int) := l.map fun b => (f, b)

def tailsL : List Int → List (Int × Int)
  | [] => []
  | a :: l => fanL a l ++ tailsL l

def ordAt (x : Exe) (loc : Int) : List Int := x.order.getD loc.toNat []

/-- The arrows that have to do with one read. -/
def arw1 (x : Exe) (q : (Nat × Evt) × Int) : List (Int × Int) :=
  (if q.2 == -1 then [] else [(q.2, (q.1.1 : Int))]) ++ fanL (q.1.1 : Int) (restL (ordAt x q.1.2.loc) q.2)

def arwL (E : List Evt) (x : Exe) : List (Int × Int) := ((rdsX E 0).zip x.from').flatMap (arw1 x) ++ x.order.flatMap tailsL

theorem fanL_len (f : Int) (l : List Int) : (fanL f l).length = l.length := List.length_map ..
theorem fanL_mem {f : Int} {l : List Int} {p : Int × Int} : p ∈ fanL f l ↔ p.1 = f ∧ p.2 ∈ l := by
  unfold fanL
  rw [List.mem_map]
  constructor
  · rintro ⟨b, hb, rfl⟩; exact ⟨rfl, hb⟩
  · rintro ⟨h1, h2⟩; exact ⟨p.2, h2, by rw [← h1]⟩

theorem tailsL_len (l : List Int) : (tailsL l).length ≤ l.length * l.length := by
  induction l with
  | nil => simp [tailsL]
  | cons a l ih =>
    unfold tailsL
    rw [List.length_append, fanL_len, List.length_cons, Nat.mul_add, Nat.add_mul]
    omega

theorem tailsL_mem {l : List Int} {p : Int × Int} (h : p ∈ tailsL l) : p.1 ∈ l ∧ p.2 ∈ l := by
  induction l with
  | nil => simp [tailsL] at h
  | cons a l ih =>
    unfold tailsL at h
    rcases List.mem_append.1 h with h | h
    · obtain ⟨h1, h2⟩ := fanL_mem.1 h
      exact ⟨by rw [h1]; exact List.mem_cons_self .., List.mem_cons_of_mem _ h2⟩
    · exact ⟨List.mem_cons_of_mem _ (ih h).1, List.mem_cons_of_mem _ (ih h).2⟩

end Go.Proofs.Ytomijmikkbhgmaa

namespace Go.Proofs.Ytomijmikkbhgmaa
open Go.RowKit

/-- The slice that 'rest' hands out. -/
def dropA (ao : Option Addr) (cap k : Nat) : Option Addr := match ao with
  | some a => if cap = k then some a else some ⟨a.block, a.off + k, none⟩
  | none => none
def restW (n : Nat) (ao : Option Addr) (cap : Nat) (x : Int) : List Int → Nat → Value
  | [], _ => .slice none 0 0
  | y :: l, k => if y == x then .slice (dropA ao cap (k + 1)) (n - (k + 1)) (cap - (k + 1)) else restW n ao cap x l (k + 1)
def restV (n : Nat) (ao : Option Addr) (cap : Nat) (l : List Int) (x : Int) : Value := if x == -1 then .slice ao n cap else restW n ao cap x l 0

theorem restW_cap {w : World} {l : List Int} {ao : Option Addr} {cap : Nat} (h : IntCap w (.slice ao l.length cap) l) (hc : l.length ≤ cap) (x : Int) (k : Nat) (hk : k ≤ l.length) : IntCap w (restW l.length ao cap x (l.drop k) k) (restG (l.drop k) x) := by
  generalize hm : l.length - k = m
  induction m generalizing k with
  | zero => rw [drop_nil (by omega)]; exact intCap_nil _
  | succ m ih =>
    have hlt : k < l.length := by omega
    obtain ⟨y, hy⟩ := get_of_lt hlt
    rw [drop_cons hy]
    unfold restW restG
    split
    · obtain ⟨ao', b, off, cap', hs, _⟩ := h
      have hv := hs.hv
      simp only [Value.slice.injEq] at hv
      obtain ⟨rfl, _, rfl⟩ := hv
      have ha := hs.ha (ne_nil hlt)
      subst ha
      exact intCap_drop hs hc (by omega)
    · exact ih (k + 1) (by omega) (by omega)

theorem restV_cap {w : World} {l : List Int} {ao : Option Addr} {cap : Nat} (h : IntCap w (.slice ao l.length cap) l) (hc : l.length ≤ cap) (x : Int) : IntCap w (restV l.length ao cap l x) (restL l x) := by
  unfold restV restL
  split
  · exact h
  · exact restW_cap h hc x 0 (Nat.zero_le _)

theorem restW_hit {n cap k b off : Nat} {x : Int} (l : List Int) : restW n (some ⟨b, off, none⟩) cap x (x :: l) k = .slice (if cap = k + 1 then (some ⟨b, off, none⟩ : Option Addr) else some ⟨b, off + (k + 1), none⟩) (n - (k + 1)) (cap - (k + 1)) := by
  rw [restW, if_pos (by simp)]; rfl
theorem restW_mis {n cap k : Nat} {ao : Option Addr} {x y : Int} (h : (y == x) = false) (l : List Int) : restW n ao cap x (y :: l) k = restW n ao cap x l (k + 1) := by rw [restW, if_neg (by simp [h])]

set_option maxHeartbeats 1000000 in
theorem rest_at (l : List Int) (hl : l.length ≤ 100000) (x : Int) (ao : Option Addr) (cap : Nat) (_hcap : l.length ≤ cap) (w : World) (h : IntAt w (.slice ao l.length cap) l) :
    Calls Try.prog 129 #[.slice ao l.length cap, .int .i64 x] w fun e w' => e = .returned (restV l.length ao cap l x) ∧ w' = w := by
  obtain ⟨ao', b, off, cap', hs⟩ := h
  have hv := hs.hv
  simp only [Value.slice.injEq] at hv
  obtain ⟨rfl, _, rfl⟩ := hv
  have ha := hs.ha
  have HC : Hid (∀ k x, l[k]? = some x → IntC w b (off + k * 1) x) := hs.hc
  clear hs
  cases hx : x == -1
  · have HR : Hid (restV l.length ao cap l x = restW l.length ao cap x (l.drop 0) 0) := by show restV _ _ _ _ _ = _; unfold restV; rw [hx]; rfl
    generalize restV l.length ao cap l x = R at HR ⊢
    go_enter Try.func129, Try.ntmps129
    go_wp2_with fail
    go_loop [5] (fun i => ∃ k : Nat, k ≤ l.length ∧ i = .int .i64 k ∧ Hid (R = restW l.length ao cap x (l.drop k) k)) (fun i => l.length - (intOf i).toNat)
    case atStart => exact ⟨0, Nat.zero_le _, rfl, HR.out⟩
    case round =>
      clear HR
      obtain ⟨k, hk, rfl, hn⟩ := hrel
      by_cases hlt : k < l.length
      · obtain ⟨y, hy⟩ := get_of_lt hlt
        have hao := ha (ne_nil hlt)
        subst hao
        have HN : Hid (R = restW l.length (some ⟨b, off, none⟩) cap x (y :: l.drop (k + 1)) k) := by rw [← drop_cons hy]; exact hn
        have c0 := HC.out k y hy
        unfold IntC at c0
        rw [Nat.mul_one] at c0
        have hkI : (k : Int) < (l.length : Int) := by omega
        clear hn hy
        cases hxy : y == x
        · have HM : Hid (R = restW l.length (some ⟨b, off, none⟩) cap x (l.drop (k + 1)) (k + 1)) := HN.out.trans (restW_mis hxy _)
          clear HN
          go_wp2_with fail
          go_round
          case measure => simp [intOf]; omega
          case rel => exact ⟨k + 1, by omega, by go_num, HM.out⟩
        · have exy : y = x := by simpa using hxy
          subst exy
          obtain ⟨aoX, hX⟩ : ∃ aoX, (if cap = k + 1 then (some ⟨b, off, none⟩ : Option Addr) else some ⟨b, off + (k + 1), none⟩) = aoX := ⟨_, rfl⟩
          have HM : Hid (R = .slice aoX (l.length - (k + 1)) (cap - (k + 1))) := HN.out.trans (by rw [restW_hit, hX])
          clear HN
          go_wp2_with fail
          go_ret
          exact ⟨by rw [HM.out]; rfl, rfl⟩
      · have HM : Hid (R = .slice none 0 0) := hn.out.trans (by rw [drop_nil hlt]; rfl)
        clear hn
        go_wp2_with fail
        go_ret
        exact ⟨by rw [HM.out]; rfl, rfl⟩
  · have HR : Hid (restV l.length ao cap l x = .slice ao l.length cap) := by show restV _ _ _ _ _ = _; unfold restV; rw [hx]; rfl
    have hx1 : x = -1 := by simpa using hx
    subst hx1
    go_enter Try.func129, Try.ntmps129
    go_wp2_with fail
    go_ret
    exact ⟨by rw [HR.out]; rfl, rfl⟩

theorem Try.infoArw : (Try.prog.info? 156).map (fun i => (i.zero, i.size, i.bytes)) = some (some (.agg #[.int .i64 0, .int .i64 0]), 2, 16) := by kernel_rfl

def arwV (p : Int × Int) : List Value := [.int .i64 p.1, .int .i64 p.2]

def ArwOwn (base : Nat) (w : World) (u : Value) (A : List (Int × Int)) : Prop := w.ownsRow base 156 2 u A.length (A.flatMap arwV)

theorem ArwOwn.at' {base : Nat} {w : World} {u : Value} {A : List (Int × Int)} (h : ArwOwn base w u A) : ArwAt w u A := by
  obtain ⟨ao, b, off, cap, h, _⟩ := owns_read (C := ArwC) arwV 2 (fun _ => rfl) (fun b off x hx => ⟨hx 0 _ rfl, hx 1 _ rfl⟩) h
  exact ⟨ao, b, off, cap, h⟩

theorem arw_snoc {base : Nat} {w : World} {u : Value} {A : List (Int × Int)} {p : Int × Int} (h : w.ownsRow base 156 2 u (A.length + 1) (A.flatMap arwV ++ arwV p)) : ArwOwn base w u (A ++ [p]) := by
  unfold ArwOwn
  rw [List.length_append, List.flatMap_append, List.flatMap_cons, List.flatMap_nil, List.append_nil]
  exact h

set_option maxHeartbeats 1000000 in
theorem fan_any (A : List (Int × Int)) (hA : A.length ≤ 1000000) (L : List Int) (hL : L.length ≤ 100000) (f : Int) (base : Nat) (u v : Value) (w0 w : World) (hw : Below w0.heap.size w0 w) (h0 : w0.heap.size ≤ base) (hbw : base ≤ w.heap.size) (hown : ArwOwn base w u A) (hto : IntAt w0 v L) :
    Calls Try.prog 140 #[u, .int .i64 f, v] w fun e w' => ∃ u', e = .returned u' ∧ ArwOwn base w' u' (A ++ fanL f L) ∧ Below base w w' := by
  obtain ⟨ao, b, off, cap, hv, ha, _, hc⟩ := hto
  subst hv
  have HC : Hid (∀ k x, L[k]? = some x → IntC w0 b (off + k * 1) x) := hc
  have HW : Hid (Below w0.heap.size w0 w) := hw
  obtain ⟨i0, hi, hz0, hz1, hz2⟩ := info_parts Try.infoArw
  have HI : Hid (Try.prog.info? 156 = some i0 ∧ i0.zero = some (.agg #[.int .i64 0, .int .i64 0]) ∧ i0.size = 2 ∧ i0.bytes = 16) := ⟨hi, hz0, hz1, hz2⟩
  have HF : Hid (A ++ fanL f L = A ++ fanL f (L.drop 0)) := rfl
  generalize A ++ fanL f L = R at HF ⊢
  have HO : Hid (ArwOwn base w u A) := hown
  clear hi hz0 hz1 hz2 hc hown hw
  go_enter Try.func140, Try.ntmps140
  go_wp2_with fail
  go_loopw [0, 7] (fun u i wr => ∃ (k : Nat) (B : List (Int × Int)), k ≤ L.length ∧ i = .int .i64 k ∧ B.length ≤ 1000000 + k ∧ Hid (R = B ++ fanL f (L.drop k)) ∧ Hid (ArwOwn base wr u B) ∧ Below base w wr) (fun _ i _ => L.length - (intOf i).toNat)
  case atStart => exact ⟨0, A, Nat.zero_le _, rfl, by omega, HF.out, HO.out, Below.refl _ _⟩
  case round =>
    clear HF HO
    obtain ⟨k, B, hk, rfl, hB, hn, hown, hb⟩ := hrel
    have hsz := hb.size
    by_cases hlt : k < L.length
    · obtain ⟨x, hx⟩ := get_of_lt hlt
      obtain rfl := ha (ne_nil hlt)
      have c0 := intC_keeps _ _ _ _ _ (HW.out.trans (hb.mono h0)) (HC.out k x hx)
      unfold IntC at c0
      rw [Nat.mul_one] at c0
      have m0 := World.block_lt_of_cell? _ _ c0
      have HM : Hid (R = (B ++ [(f, x)]) ++ fanL f (L.drop (k + 1))) := hn.out.trans (by rw [drop_cons hx]; simp [fanL])
      have HO : Hid (wr.ownsRow base 156 2 u0 B.length (B.flatMap arwV)) := hown.out
      have hkI : (k : Int) < (L.length : Int) := by omega
      clear hn hx hown
      go_wp2_with (at_builtin; refine append_new _ rfl (.tmp 14) (.tmp 21) 135 rfl base 156 i0 (.agg #[.int .i64 0, .int .i64 0]) 2 16 Try.underlying135 HI.out.1 HI.out.2.1 HI.out.2.2.1 HI.out.2.2.2 rfl (by decide) u0 B.length (B.flatMap arwV) rfl (HO.out.alloc _) (some ⟨wr.heap.size, 0, none⟩) 1 1 (arwV (f, x)) rfl (fun h => by cases h) rfl (fun ad had => by cases had; exact new_many rfl) (by simp [arwV, Value.oneCell']) (by unfold maxLen; omega) (by omega) (by simp; omega) ?_)
      intro u' w1 hown' hgrow _
      have hb' : Below base w w1 := Below.grown (hb.alloc (by omega) _) hgrow (by simp; omega) (fun kk e => (HO.out.lt kk e).1)
      have HO2 : Hid (ArwOwn base w1 u' (B ++ [(f, x)])) := arw_snoc hown'
      clear hgrow hown' HO hb
      go_wp2_with fail
      go_roundw
      case measure => simp [intOf]; omega
      case rel => exact ⟨k + 1, B ++ [(f, x)], by omega, by go_num, by simp; omega, HM.out, HO2.out, hb'⟩
    · have HM : Hid (R = B) := hn.out.trans (by rw [drop_nil hlt]; simp [fanL])
      have HO := hown
      clear hn hown
      go_wp2_with fail
      go_ret
      exact ⟨_, rfl, by rw [HM.out]; exact HO.out, hb⟩

end Go.Proofs.Ytomijmikkbhgmaa

namespace Go.Proofs.Ytomijmikkbhgmaa
open Go.RowKit

def memB (k : Int) : Bool := k == 0 || k == 1

theorem memory_any (n : Int) (w : World) :
    Calls Try.prog 128 #[.int .i64 n] w fun e w' => e = .returned (.bool (memB n)) ∧ w' = w := by
  unfold memB
  go_enter Try.func128, Try.ntmps128
  go_wp2
  all_goals go_ret
  all_goals exact ⟨ret_bool (by first | (simp [*]; done) | (simp; omega)), rfl⟩

def evV (y : Evt) : Value := .agg #[.int .i64 y.thread, .int .i64 y.place, .int .i64 y.kind, .int .i64 y.loc, .int .i64 y.ins.op, .int .i64 y.ins.loc, .int .i64 y.ins.reg, .int .i64 y.ins.val, .int .i64 y.ins.mode]

def markB (a b : Evt) : Bool := (a.kind == 2 || a.kind == 4 || a.kind == 5) || ((b.kind == 3 || b.kind == 4 || b.kind == 5) || ((a.kind == 0 && a.ins.mode == 1) || (b.kind == 1 && b.ins.mode == 2)))

set_option maxHeartbeats 1000000 in
theorem marked_any (a b : Evt) (w : World) :
    Calls Try.prog 142 #[evV a, evV b] w fun e w' => e = .returned (.bool (markB a b)) ∧ Below w.heap.size w w' := by
  unfold markB evV
  go_enter Try.func142, Try.ntmps142
  go_wp2
  all_goals go_ret
  all_goals exact ⟨ret_bool (by first | (simp [*]; done) | (simp_all; done) | (simp_all; omega)), below_two _ _ _⟩

/-- The last Read of a thread into a register, or what is told. -/
def srcG (y : Evt) : List Evt → Nat → Int → Int
  | [], _, at' => at'
  | z :: l, i, at' => srcG y l (i + 1) (if z.kind == 0 && z.thread == y.thread && z.ins.reg == y.ins.reg then (i : Int) else at')

set_option maxRecDepth 20000 in
set_option maxHeartbeats 1000000 in
theorem source_any (E : List Evt) (hE : E.length ≤ 96) (b' : Nat) (y : Evt) (hy : E[b']? = some y) (v : Value) (w : World) (h : Ev9At w v E) :
    Calls Try.prog 143 #[v, .int .i64 b'] w fun e w' => e = .returned (.int .i64 (srcG y (E.take b') 0 (-1))) ∧ Below w.heap.size w w' := by
  obtain ⟨ao, b, off, cap, hv, ha, _, hc⟩ := h
  subst hv
  have hbl : b' < E.length := (List.getElem?_eq_some_iff.1 hy).1
  obtain rfl := ha (ne_nil hbl)
  have HC : Hid (∀ k y, E[k]? = some y → Ev9C w b (off + k * 9) y) := hc
  have HY : Hid (Ev9C w b (off + b' * 9) y) := hc b' y hy
  have HS : Hid (srcG y (E.take b') 0 (-1) = srcG y ((E.take b').drop 0) 0 (-1)) := rfl
  generalize srcG y (E.take b') 0 (-1) = S at HS ⊢
  clear hc hy ha
  go_enter Try.func143, Try.ntmps143
  go_wp2_with fail
  go_loopw [5, 6] (fun at' i wr => ∃ (k : Nat) (a : Int), k ≤ b' ∧ i = .int .i64 k ∧ at' = .int .i64 a ∧ Hid (S = srcG y ((E.take b').drop k) k a) ∧ Below w.heap.size w wr) (fun _ i _ => b' - (intOf i).toNat)
  case atStart => exact ⟨0, -1, Nat.zero_le _, rfl, rfl, HS.out, Below.refl _ _⟩
  case round =>
    clear HS
    obtain ⟨k, a, hk, rfl, rfl, hn, hb⟩ := hrel
    by_cases hlt : k < b'
    · obtain ⟨z, hz⟩ := get_of_lt (l := E) (k := k) (by omega)
      have hz2 : (E.take b')[k]? = some z := by rw [List.getElem?_take_of_lt hlt]; exact hz
      obtain ⟨c0, _, c2, _, _, _, c6, _, _⟩ := ev9C_keeps _ _ _ _ _ hb (HC.out k z hz)
      obtain ⟨d0, _, _, _, _, _, d6, _, _⟩ := ev9C_keeps _ _ _ _ _ hb HY.out
      have hkI : (k : Int) < (b' : Int) := by omega
      have hkE : (k : Int) < (E.length : Int) := by omega
      have hbE : (b' : Int) < (E.length : Int) := by omega
      have HN : Hid (S = srcG y ((E.take b').drop (k + 1)) (k + 1) (if z.kind == 0 && z.thread == y.thread && z.ins.reg == y.ins.reg then (k : Int) else a)) := hn.out.trans (by rw [drop_cons hz2]; rfl)
      clear hn hz hz2
      cases h0 : z.kind == 0
      · have HM : Hid (S = srcG y ((E.take b').drop (k + 1)) (k + 1) a) := HN.out.trans (by rw [h0]; rfl)
        go_wp2_with fail
        go_quiet (fail)
        go_wp2_with fail
        go_roundw
        case measure => simp [intOf]; omega
        case rel => exact ⟨k + 1, a, by omega, by go_num, rfl, HM.out, below_drewN hb _⟩
      · cases h1 : z.thread == y.thread
        · have HM : Hid (S = srcG y ((E.take b').drop (k + 1)) (k + 1) a) := HN.out.trans (by rw [h0, h1]; rfl)
          go_wp2_with fail
          go_quiet (fail)
          go_wp2_with fail
          go_roundw
          case measure => simp [intOf]; omega
          case rel => exact ⟨k + 1, a, by omega, by go_num, rfl, HM.out, below_drewN hb _⟩
        · cases h2 : z.ins.reg == y.ins.reg
          · have HM : Hid (S = srcG y ((E.take b').drop (k + 1)) (k + 1) a) := HN.out.trans (by rw [h0, h1, h2]; rfl)
            go_wp2_with fail
            go_quiet (fail)
            go_wp2_with fail
            go_roundw
            case measure => simp [intOf]; omega
            case rel => exact ⟨k + 1, a, by omega, by go_num, rfl, HM.out, below_drewN hb _⟩
          · have HM : Hid (S = srcG y ((E.take b').drop (k + 1)) (k + 1) (k : Int)) := HN.out.trans (by rw [h0, h1, h2]; rfl)
            go_wp2_with fail
            go_quiet (fail)
            go_wp2_with fail
            go_roundw
            case measure => simp [intOf]; omega
            case rel => exact ⟨k + 1, (k : Int), by omega, by go_num, rfl, HM.out, below_drewN hb _⟩
    · have HM : Hid (S = a) := hn.out.trans (by rw [drop_nil (l := E.take b') (k := k) (by rw [List.length_take]; omega)]; rfl)
      have hkI : (b' : Int) ≤ (k : Int) := by omega
      clear hn
      go_wp2_with fail
      go_ret
      exact ⟨by rw [HM.out]; rfl, hb⟩

/-- The events of a kind. -/
def thoL (kd : Int) : List Evt → Nat → List Int
  | [], _ => []
  | x :: E, i => if x.kind == kd then (i : Int) :: thoL kd E (i + 1) else thoL kd E (i + 1)

set_option maxHeartbeats 1000000 in
theorem those_any (E : List Evt) (hE : E.length ≤ 96) (kd : Int) (v : Value) (w : World) (h : Ev9At w v E) :
    Calls Try.prog 132 #[v, .int .i64 kd] w fun e w' => ∃ u, e = .returned u ∧ IntNew w.heap.size w' u (thoL kd E 0) ∧ Below w.heap.size w w' := by
  obtain ⟨ao, b, off, cap, hv, ha, _, hc⟩ := h
  subst hv
  obtain ⟨i0, hi, hz0, hz1, hz2⟩ := info_parts Try.info3
  have HI : Hid (Try.prog.info? 3 = some i0 ∧ i0.zero = some (.int .i64 0) ∧ i0.size = 1 ∧ i0.bytes = 8) := ⟨hi, hz0, hz1, hz2⟩
  clear hi hz0 hz1 hz2
  go_enter Try.func132, Try.ntmps132
  go_wp2_with fail
  go_loopw [5, 6] (fun u i wr => ∃ (k : Nat) (xs : List Int), k ≤ E.length ∧ i = .int .i64 k ∧ xs.length ≤ k ∧ Hid (thoL kd E 0 = xs ++ thoL kd (E.drop k) k) ∧ wr.ownsRow w.heap.size 3 1 u xs.length (xs.map (Value.int .i64)) ∧ Below w.heap.size w wr) (fun _ i _ => E.length - (intOf i).toNat)
  case atStart => exact ⟨0, [], Nat.zero_le _, rfl, Nat.le_refl _, rfl, World.ownsRow_nil _ _ _ _, Below.refl _ _⟩
  case round =>
    obtain ⟨k, xs, hk, rfl, hxk, hn, hown, hb⟩ := hrel
    have hsz := hb.size
    by_cases hlt : k < E.length
    · obtain ⟨x, hx⟩ := get_of_lt hlt
      have hC := hc k x hx
      have hbl := hC.lt
      obtain rfl := ha (ne_nil hlt)
      obtain ⟨_, _, c2, _, _, _, _, _, _⟩ := ev9C_keeps _ _ _ _ _ hb hC
      have HN : Hid (thoL kd E 0 = xs ++ thoL kd (x :: E.drop (k + 1)) k) := by rw [← drop_cons hx]; exact hn
      have HC : Hid (∀ k x, E[k]? = some x → Ev9C w b (off + k * 9) x) := hc
      clear hn hx hc hC ha
      cases h1 : x.kind == kd
      · have HM : Hid (thoL kd E 0 = xs ++ thoL kd (E.drop (k + 1)) (k + 1)) := HN.out.trans (by rw [thoL, if_neg (by simp [h1])])
        go_wp2_with fail
        go_roundw
        case measure => simp [intOf]; omega
        case rel => exact ⟨k + 1, xs, by omega, by go_num, by omega, HM.out, hown, hb⟩
      · have HM : Hid (thoL kd E 0 = (xs ++ [(k : Int)]) ++ thoL kd (E.drop (k + 1)) (k + 1)) := HN.out.trans (by rw [thoL, if_pos h1]; simp)
        go_wp2_with (at_builtin; refine append_new _ rfl (.tmp 20) (.tmp 22) 37 rfl w.heap.size 3 i0 (.int .i64 0) 1 8 Try.underlying37 HI.out.1 HI.out.2.1 HI.out.2.2.1 HI.out.2.2.2 rfl (by decide) u5 xs.length (xs.map (Value.int .i64)) rfl (hown.alloc _) (some ⟨wr.heap.size, 0, none⟩) 1 1 [.int .i64 k] rfl (fun h => by cases h) rfl (fun ad had => by cases had; exact new_one rfl) (by simp [Value.oneCell']) (by unfold maxLen; omega) (by omega) (by simp; omega) ?_)
        intro u' w1 hown' hgrow _
        have hb' : Below w.heap.size w w1 := Below.grown (hb.alloc hsz _) hgrow (by simp; omega) (fun kk e => (hown.lt kk e).1)
        have HO : Hid (w1.ownsRow w.heap.size 3 1 u' (xs ++ [(k : Int)]).length ((xs ++ [(k : Int)]).map (Value.int .i64))) := own_snoc hown'
        clear hgrow hown hown'
        go_wp2_with fail
        go_roundw
        case measure => simp [intOf]; omega
        case rel => exact ⟨k + 1, xs ++ [(k : Int)], by omega, by go_num, by simp; omega, HM.out, HO.out, hb'⟩
    · have HM : Hid (thoL kd E 0 = xs) := hn.out.trans (by rw [drop_nil hlt]; simp [thoL])
      clear hn hc ha
      go_wp2_with fail
      go_ret
      exact ⟨_, rfl, by rw [HM.out]; exact owns_int hown, hb⟩

end Go.Proofs.Ytomijmikkbhgmaa
