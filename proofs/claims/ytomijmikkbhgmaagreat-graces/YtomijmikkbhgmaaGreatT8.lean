import Derived.Test.YtomijmikkbhgmaaGreatT4
import Derived.Test.YtomijmikkbhgmaaGreatLt
import Derived.Deep.RegionWith
import Derived.Test.YtomijmikkbhgmaaGreatT3
import Derived.Deep.OwnRows
namespace Go.Proofs.YtomijmikkbhgmaaGreat
open Go.RowKit

theorem Tryz.infoInts : (Tryz.prog.info? 26).map (fun i => (i.zero, i.size, i.bytes)) = some (some (.slice none 0 0), 1, 24) := by kernel_rfl

def LC (w : World) (b off : Nat) (x : List Int) : Prop := ∃ u, w.cell? ⟨b, off, none⟩ = some u ∧ IntAt w u x
def LstAt (w : World) (v : Value) (L : List (List Int)) : Prop := ∃ ao b off cap, SlAt w 1 LC v L ao b off cap

theorem lc_keeps : Keeps LC := fun _ _ _ _ _ hb ⟨u, h1, h2⟩ => ⟨u, keep_cell hb h1, h2.keep hb⟩
theorem LstAt.keep {w w' : World} {v : Value} {L : List (List Int)} (h : LstAt w v L) (hb : Below w.heap.size w w') : LstAt w' v L := by
  obtain ⟨ao, b, off, cap, h⟩ := h
  exact ⟨ao, b, off, cap, h.keep lc_keeps hb⟩

structure ExeAt (w : World) (vf vo : Value) (x : Exe) : Prop where
  f : IntAt w vf x.from'
  o : LstAt w vo x.order
theorem ExeAt.keep {w w' : World} {vf vo : Value} {x : Exe} (h : ExeAt w vf vo x) (hb : Below w.heap.size w w') : ExeAt w' vf vo x := ⟨h.f.keep hb, h.o.keep hb⟩

theorem IntAt.form {w : World} {v : Value} {l : List Int} (h : IntAt w v l) : ∃ ao cap, v = .slice ao l.length cap := by
  obtain ⟨ao, b, off, cap, h⟩ := h
  exact ⟨ao, cap, h.hv⟩

theorem IntAt.other {w w' : World} {v : Value} {l : List Int} (h : IntAt w v l) (hs : ∀ b : Nat, v.ownBlock = some b → w'.heap[b]? = w.heap[b]?) : IntAt w' v l := by
  obtain ⟨ao, b, off, cap, hv, ha, hn, hc⟩ := h
  refine ⟨ao, b, off, cap, hv, ha, hn, fun k x hx => ?_⟩
  have hk : k < l.length := (List.getElem?_eq_some_iff.1 hx).1
  exact cell_heap (hs b (by rw [hv, ha (ne_nil hk)]; rfl)) (hc k x hx)

/-- A slice of numbers with room enough. -/
def IntCap (w : World) (v : Value) (l : List Int) : Prop := ∃ ao b off cap, SlAt w 1 IntC v l ao b off cap ∧ l.length ≤ cap
theorem IntNew.cap {B : Nat} {w : World} {v : Value} {l : List Int} (h : IntNew B w v l) : IntCap w v l := by
  obtain ⟨ao, b, off, cap, h1, _, h2⟩ := h
  exact ⟨ao, b, off, cap, h1, h2⟩
theorem IntCap.at' {w : World} {v : Value} {l : List Int} (h : IntCap w v l) : IntAt w v l := by
  obtain ⟨ao, b, off, cap, h1, _⟩ := h
  exact ⟨ao, b, off, cap, h1⟩
theorem IntCap.keep {w w' : World} {v : Value} {l : List Int} (h : IntCap w v l) (hb : Below w.heap.size w w') : IntCap w' v l := by
  obtain ⟨ao, b, off, cap, h1, h2⟩ := h
  exact ⟨ao, b, off, cap, h1.keep intC_keeps hb, h2⟩
theorem intCap_nil (w : World) : IntCap w (.slice none 0 0) [] := ⟨none, 0, 0, 0, ⟨rfl, fun h => absurd rfl h, fun _ => ⟨rfl, rfl⟩, fun k x h => by simp at h⟩, Nat.le_refl _⟩

theorem IntCap.other {w w' : World} {v : Value} {l : List Int} (h : IntCap w v l) (hs : ∀ b : Nat, v.ownBlock = some b → w'.heap[b]? = w.heap[b]?) : IntCap w' v l := by
  obtain ⟨ao, b, off, cap, ⟨hv, ha, hn, hc⟩, hl⟩ := h
  refine ⟨ao, b, off, cap, ⟨hv, ha, hn, fun k x hx => ?_⟩, hl⟩
  have hk : k < l.length := (List.getElem?_eq_some_iff.1 hx).1
  exact cell_heap (hs b (by rw [hv, ha (ne_nil hk)]; rfl)) (hc k x hx)
theorem IntCap.form {w : World} {v : Value} {l : List Int} (h : IntCap w v l) : ∃ ao cap, v = .slice ao l.length cap := h.at'.form

def LCC (w : World) (b off : Nat) (x : List Int) : Prop := ∃ u, w.cell? ⟨b, off, none⟩ = some u ∧ IntCap w u x
theorem lcc_keeps : Keeps LCC := fun _ _ _ _ _ hb ⟨u, h1, h2⟩ => ⟨u, keep_cell hb h1, h2.keep hb⟩

def LstC (w : World) (v : Value) (L : List (List Int)) : Prop := ∃ ao b off cap, SlAt w 1 LCC v L ao b off cap
theorem LstC.keep {w w' : World} {v : Value} {L : List (List Int)} (h : LstC w v L) (hb : Below w.heap.size w w') : LstC w' v L := by
  obtain ⟨ao, b, off, cap, h⟩ := h
  exact ⟨ao, b, off, cap, h.keep lcc_keeps hb⟩

/-- An execution whose lists have room for themselves. -/
structure ExeC (w : World) (vf vo : Value) (x : Exe) : Prop where
  f : IntAt w vf x.from'
  o : ∃ ao b off cap, SlAt w 1 LCC vo x.order ao b off cap
theorem ExeC.keep {w w' : World} {vf vo : Value} {x : Exe} (h : ExeC w vf vo x) (hb : Below w.heap.size w w') : ExeC w' vf vo x := by
  obtain ⟨ao, b, off, cap, hs⟩ := h.o
  exact ⟨h.f.keep hb, ao, b, off, cap, hs.keep lcc_keeps hb⟩
theorem ExeC.at' {w : World} {vf vo : Value} {x : Exe} (h : ExeC w vf vo x) : ExeAt w vf vo x := by
  obtain ⟨ao, b, off, cap, hs⟩ := h.o
  refine ⟨h.f, ao, b, off, cap, hs.hv, hs.ha, hs.hn, fun k l hl => ?_⟩
  obtain ⟨u, h1, h2⟩ := hs.hc k l hl
  exact ⟨u, h1, h2.at'⟩

/-- A slice of slices of the call's own, each of whose rows lies in a block of its own. -/
structure LL (w : World) (base : Nat) (V : Value) (L : List (List Int)) (vs : List Value) : Prop where
  len : vs.length = L.length
  own : w.ownsRow base 26 1 V L.length vs
  rows : ∀ (j : Nat) (x : List Int), L[j]? = some x → ∃ u, vs[j]? = some u ∧ IntCap w u x ∧ ∀ b, u.ownBlock = some b → base ≤ b ∧ b < w.heap.size ∧ V.ownBlock ≠ some b

theorem LL.nil (w : World) (base : Nat) : LL w base (.slice none 0 0) [] [] := ⟨rfl, World.ownsRow_nil _ _ _ _, fun j x h => by simp at h⟩

theorem LL.other {w w' : World} {base : Nat} {V : Value} {L : List (List Int)} {vs : List Value} (h : LL w base V L vs) (hsz : w.heap.size ≤ w'.heap.size) (hs : ∀ b : Nat, base ≤ b → b < w.heap.size → w'.heap[b]? = w.heap[b]?) : LL w' base V L vs := by
  refine ⟨h.len, own_other h.own (fun b hb => hs b (h.own.lt b hb).1 (h.own.lt b hb).2), fun j x hx => ?_⟩
  obtain ⟨u, h1, h2, h3⟩ := h.rows j x hx
  exact ⟨u, h1, h2.other (fun b hb => hs b (h3 b hb).1 (h3 b hb).2.1), fun b hb => ⟨(h3 b hb).1, Nat.lt_of_lt_of_le (h3 b hb).2.1 hsz, (h3 b hb).2.2⟩⟩
theorem LL.keep {w w' : World} {base : Nat} {V : Value} {L : List (List Int)} {vs : List Value} (h : LL w base V L vs) (hb : Below w.heap.size w w') : LL w' base V L vs := h.other hb.size (fun b _ hb2 => hb.block b hb2)
theorem LL.only {B : Nat} {w w' : World} {base : Nat} {V : Value} {L : List (List Int)} {vs : List Value} (h : LL w base V L vs) (ho : Only B w w') (hB : B < base) : LL w' base V L vs := h.other ho.size (fun b h1 h2 => ho.block b h2 (by omega))

theorem LL.snoc {w w2 : World} {base : Nat} {V V' : Value} {L : List (List Int)} {vs : List Value} (h : LL w base V L vs) {x : List Int} {u : Value} {o : Obj} (hu : IntCap w u x)
    (hub : ∀ b, u.ownBlock = some b → base ≤ b ∧ b < w.heap.size ∧ V.ownBlock ≠ some b) (hown : w2.ownsRow base 26 1 V' (L.length + 1) (vs ++ [u])) (hg : (w.alloc o).grownBy w2 V.ownBlock)
    (hap : ∀ g, V'.ownBlock = some g → V.ownBlock = some g ∨ w.heap.size + 1 ≤ g) : LL w2 base V' (L ++ [x]) (vs ++ [u]) := by
  have hsz : w.heap.size + 1 ≤ w2.heap.size := by have := hg.size; simpa using this
  have key : ∀ b : Nat, b < w.heap.size → V.ownBlock ≠ some b → w2.heap[b]? = w.heap[b]? := by
    intro b hb hne
    rw [hg.block b (by simp; omega) (fun e => hne e.symm), Below.heap_alloc _ _ _ hb]
  refine ⟨by simp [h.len], by simpa using hown, fun j y hy => ?_⟩
  by_cases hj : j < L.length
  · rw [List.getElem?_append_left hj] at hy
    obtain ⟨z, h1, h2, h3⟩ := h.rows j y hy
    refine ⟨z, by rw [List.getElem?_append_left (by rw [h.len]; exact hj)]; exact h1, h2.other (fun b hb => key b (h3 b hb).2.1 (h3 b hb).2.2), fun b hb => ?_⟩
    have h4 := (h3 b hb).2.1
    refine ⟨(h3 b hb).1, by omega, fun e => ?_⟩
    rcases hap b e with e' | e'
    · exact (h3 b hb).2.2 e'
    · omega
  · have hjL : j = L.length := by
      have := (List.getElem?_eq_some_iff.1 hy).1
      simp at this; omega
    subst hjL
    rw [List.getElem?_append_right (Nat.le_refl _), Nat.sub_self] at hy
    simp at hy
    subst hy
    refine ⟨u, by rw [List.getElem?_append_right (by rw [h.len]; exact Nat.le_refl _), h.len]; simp, hu.other (fun b hb => key b (hub b hb).2.1 (hub b hb).2.2), fun b hb => ?_⟩
    have h4 := (hub b hb).2.1
    refine ⟨(hub b hb).1, by omega, fun e => ?_⟩
    rcases hap b e with e' | e'
    · exact (hub b hb).2.2 e'
    · omega

/-- A list of lists in memory that is new: from block B on, its rows too. -/
def LstNew (B : Nat) (w : World) (v : Value) (L : List (List Int)) : Prop :=
  ∃ ao b off cap, v = .slice ao L.length cap ∧ (L ≠ [] → ao = some ⟨b, off, none⟩) ∧ (ao = none → L = [] ∧ cap = 0) ∧ B ≤ b ∧
    ∀ (k : Nat) (x : List Int), L[k]? = some x → ∃ u, w.cell? ⟨b, off + k, none⟩ = some u ∧ IntCap w u x ∧ ∀ g, u.ownBlock = some g → B ≤ g ∧ g < w.heap.size

theorem LL.read {w : World} {base : Nat} {V : Value} {L : List (List Int)} {vs : List Value} (h : LL w base V L vs) : LstNew base w V L := by
  rcases h.own.2 with ⟨hv, hn⟩ | ⟨g, cap, cur, hv, hg, hh, _⟩
  · have h0 : L = [] := List.eq_nil_of_length_eq_zero hn
    subst h0
    exact ⟨none, base, 0, 0, hv, fun h => absurd rfl h, fun _ => ⟨rfl, rfl⟩, Nat.le_refl _, fun k x h => by simp at h⟩
  · refine ⟨_, g, 0, cap, hv, fun _ => rfl, fun h => by simp at h, hg, fun k x hk => ?_⟩
    obtain ⟨u, h1, h2, h3⟩ := h.rows k x hk
    have := h.own.cells (g := g) (by rw [hv]; rfl) k u h1
    rw [Addr.add_lit] at this
    exact ⟨u, this, h2, fun b hb => ⟨(h3 b hb).1, (h3 b hb).2.1⟩⟩

theorem LstNew.at' {B : Nat} {w : World} {v : Value} {L : List (List Int)} (h : LstNew B w v L) : LstAt w v L := by
  obtain ⟨ao, b, off, cap, hv, ha, hn, _, hc⟩ := h
  refine ⟨ao, b, off, cap, hv, ha, hn, fun k x hx => ?_⟩
  obtain ⟨u, h1, h2, _⟩ := hc k x hx
  rw [Nat.mul_one]
  exact ⟨u, h1, h2.at'⟩
theorem LstNew.caps {B : Nat} {w : World} {v : Value} {L : List (List Int)} (h : LstNew B w v L) : ∃ ao b off cap, SlAt w 1 LCC v L ao b off cap := by
  obtain ⟨ao, b, off, cap, hv, ha, hn, _, hc⟩ := h
  refine ⟨ao, b, off, cap, hv, ha, hn, fun k x hx => ?_⟩
  obtain ⟨u, h1, h2, _⟩ := hc k x hx
  rw [Nat.mul_one]
  exact ⟨u, h1, h2⟩

/-- What is left of a slice behind its first k entries. -/
theorem intCap_drop {w : World} {l : List Int} {b off cap : Nat} (h : SlAt w 1 IntC (.slice (some ⟨b, off, none⟩) l.length cap) l (some ⟨b, off, none⟩) b off cap) (hc : l.length ≤ cap) {k : Nat} (hk : k ≤ l.length) :
    IntCap w (.slice (if cap = k then (some ⟨b, off, none⟩ : Option Addr) else some ⟨b, off + k, none⟩) (l.length - k) (cap - k)) (l.drop k) := by
  by_cases e : cap = k
  · rw [if_pos e]
    have hd : l.drop k = [] := List.drop_eq_nil_of_le (by omega)
    rw [hd]
    exact ⟨_, b, off, _, ⟨by rw [show l.length - k = 0 by omega]; rfl, fun h => absurd rfl h, fun h => by simp at h, fun k x h => by simp at h⟩, Nat.zero_le _⟩
  · rw [if_neg e]
    refine ⟨_, b, off + k, _, ⟨by rw [List.length_drop], fun _ => rfl, fun h => by simp at h, fun j x hx => ?_⟩, by rw [List.length_drop]; omega⟩
    rw [List.getElem?_drop] at hx
    have := h.hc (k + j) x hx
    unfold IntC at this ⊢
    rw [Nat.mul_one] at this ⊢
    rw [Nat.add_assoc]; exact this

end Go.Proofs.YtomijmikkbhgmaaGreat

namespace Go.Proofs.YtomijmikkbhgmaaGreat
open Go.RowKit

set_option maxHeartbeats 1000000 in
theorem sameInts_any (l : List Int) (hl : l.length ≤ 100000) (u v : Value) (w : World) (hu : IntAt w u l) (hv : IntAt w v l) :
    Calls Tryz.prog 20 #[u, v] w fun e w' => e = .returned (.bool true) ∧ Below w.heap.size w w' := by
  obtain ⟨ao, b, off, cap, hv1, ha, _, hc⟩ := hu
  obtain ⟨ao2, b2, off2, cap2, hv2, ha2, _, hc2⟩ := hv
  subst hv1 hv2
  have HC : Hid ((∀ k x, l[k]? = some x → IntC w b (off + k * 1) x) ∧ (∀ k x, l[k]? = some x → IntC w b2 (off2 + k * 1) x)) := ⟨hc, hc2⟩
  clear hc hc2
  have k0 : ((l.length : Int) != (l.length : Int)) = false := by simp
  go_enter Tryz.func20, Tryz.ntmps20
  go_wp2_with fail
  go_loopw [5] (fun i wr => ∃ k : Nat, k ≤ l.length ∧ i = .int .i64 k ∧ Below w.heap.size w wr) (fun i _ => l.length - (intOf i).toNat)
  case atStart => exact ⟨0, Nat.zero_le _, rfl, Below.refl _ _⟩
  case round =>
    obtain ⟨k, hk, rfl, hb⟩ := hrel
    by_cases hlt : k < l.length
    · obtain ⟨x, hx⟩ := get_of_lt hlt
      obtain rfl := ha (ne_nil hlt)
      obtain rfl := ha2 (ne_nil hlt)
      have c0 := intC_keeps _ _ _ _ _ hb (HC.out.1 k x hx)
      have d0 := intC_keeps _ _ _ _ _ hb (HC.out.2 k x hx)
      unfold IntC at c0 d0
      rw [Nat.mul_one] at c0 d0
      have n0 : (x != x) = false := by simp
      have hkI : (k : Int) < (l.length : Int) := by omega
      clear hx
      go_wp2_with fail
      go_quiet (fail)
      go_wp2_with fail
      go_roundw
      case measure => simp [intOf]; omega
      case rel => exact ⟨k + 1, by omega, by go_num, below_drewN hb _⟩
    · go_wp2_with fail
      go_ret
      exact ⟨rfl, hb⟩

set_option maxHeartbeats 1000000 in
theorem sameLists_any (L : List (List Int)) (hL : L.length ≤ 100000) (hl : ∀ x ∈ L, x.length ≤ 100000) (u v : Value) (w : World) (hu : LstAt w u L) (hv : LstAt w v L) :
    Calls Tryz.prog 52 #[u, v] w fun e w' => e = .returned (.bool true) ∧ Below w.heap.size w w' := by
  obtain ⟨ao, b, off, cap, hv1, ha, _, hc⟩ := hu
  obtain ⟨ao2, b2, off2, cap2, hv2, ha2, _, hc2⟩ := hv
  subst hv1 hv2
  have HC : Hid ((∀ k x, L[k]? = some x → LC w b (off + k * 1) x) ∧ (∀ k x, L[k]? = some x → LC w b2 (off2 + k * 1) x) ∧ ∀ x ∈ L, x.length ≤ 100000) := ⟨hc, hc2, hl⟩
  clear hc hc2 hl
  have k0 : ((L.length : Int) != (L.length : Int)) = false := by simp
  go_enter Tryz.func52, Tryz.ntmps52
  go_wp2_with fail
  go_loopw [5] (fun i wr => ∃ k : Nat, k ≤ L.length ∧ i = .int .i64 k ∧ Below w.heap.size w wr) (fun i _ => L.length - (intOf i).toNat)
  case atStart => exact ⟨0, Nat.zero_le _, rfl, Below.refl _ _⟩
  case round =>
    obtain ⟨k, hk, rfl, hb⟩ := hrel
    by_cases hlt : k < L.length
    · obtain ⟨x, hx⟩ := get_of_lt hlt
      obtain rfl := ha (ne_nil hlt)
      obtain rfl := ha2 (ne_nil hlt)
      obtain ⟨u1, c0, i1⟩ := lc_keeps _ _ _ _ _ hb (HC.out.1 k x hx)
      obtain ⟨u2, d0, i2⟩ := lc_keeps _ _ _ _ _ hb (HC.out.2.1 k x hx)
      rw [Nat.mul_one] at c0 d0
      have HI : Hid (IntAt wr u1 x ∧ IntAt wr u2 x ∧ x.length ≤ 100000) := ⟨i1, i2, HC.out.2.2 x (List.mem_of_getElem? hx)⟩
      have hkI : (k : Int) < (L.length : Int) := by omega
      clear hx i1 i2
      go_wp2_with fail
      go_region_with (go_at_call 20; refine (sameInts_any x HI.out.2.2 u1 u2 _ (HI.out.1.keep (Below.refl _ _).drew) (HI.out.2.1.keep (Below.refl _ _).drew)).mono ?_; rintro e w5 ⟨rfl, hb5⟩)
      all_goals
        go_wp2_with fail
        go_roundw
        case measure => simp [intOf]; omega
        case rel => exact ⟨k + 1, by omega, by go_num, below_more hb.drew hb5⟩
    · go_wp2_with fail
      go_ret
      exact ⟨rfl, hb⟩

set_option maxHeartbeats 1000000 in
theorem sameExec_any (x : Exe) (h1 : x.from'.length ≤ 100000) (h2 : x.order.length ≤ 100000) (h3 : ∀ y ∈ x.order, y.length ≤ 100000) (f1 o1 f2 o2 : Value) (w : World) (hu : ExeAt w f1 o1 x) (hv : ExeAt w f2 o2 x) :
    Calls Tryz.prog 29 #[.agg #[f1, o1], .agg #[f2, o2]] w fun e w' => e = .returned (.bool true) ∧ Below w.heap.size w w' := by
  have HU : Hid (ExeAt w f1 o1 x ∧ ExeAt w f2 o2 x) := ⟨hu, hv⟩
  clear hu hv
  go_enter Tryz.func29, Tryz.ntmps29
  go_wp2_with fail
  refine (sameInts_any x.from' h1 f1 f2 _ (HU.out.1.f.keep (below_two _ _ _)) (HU.out.2.f.keep (below_two _ _ _))).mono ?_
  rintro e w3 ⟨rfl, hb3⟩
  have e0 := keep_cell hb3 (b := w.heap.size) (off := 1) (u := o1) (by simp)
  have e1 := keep_cell hb3 (b := w.heap.size + 1) (off := 1) (u := o2) (by simp)
  have hbw := below_more (below_two _ _ _) hb3
  clear hb3
  go_wp2_with fail
  refine (sameLists_any x.order h2 h3 o1 o2 _ (HU.out.1.o.keep hbw) (HU.out.2.o.keep hbw)).mono ?_
  rintro e w4 ⟨rfl, hb4⟩
  go_wp2_with fail
  go_ret
  exact ⟨rfl, below_more hbw hb4⟩

end Go.Proofs.YtomijmikkbhgmaaGreat

namespace Go.Proofs.YtomijmikkbhgmaaGreat

/-- All arrows lead between events. -/
def Arws (n : Nat) (A : List (Int × Int)) : Prop := ∀ p ∈ A, ∃ a b : Nat, a < n ∧ b < n ∧ p = ((a : Int), (b : Int))

/-- To each event of the set an arrow leads from within it. -/
def Core (n : Nat) (A : List (Int × Int)) (S : Nat → Prop) : Prop := ∀ b, b < n → S b → ∃ a : Nat, a < n ∧ S a ∧ ((a : Int), (b : Int)) ∈ A

def Cyc (n : Nat) (A : List (Int × Int)) : Prop := ∃ S : Nat → Prop, (∃ b, b < n ∧ S b) ∧ Core n A S

theorem Cyc.mono {n : Nat} {A B : List (Int × Int)} (h : Cyc n A) (hs : ∀ p ∈ A, p ∈ B) : Cyc n B := by
  obtain ⟨S, h1, h2⟩ := h
  refine ⟨S, h1, fun b hb hS => ?_⟩
  obtain ⟨a, k1, k2, k3⟩ := h2 b hb hS
  exact ⟨a, k1, k2, hs _ k3⟩

/-- Does an arrow lead to an event from one that is still there? -/
def ldB (g : Nat → Bool) (to : Int) (A : List (Int × Int)) : Bool := A.any fun p => p.2 == to && !g p.1.toNat

theorem ldB_iff {n : Nat} {A : List (Int × Int)} (hA : Arws n A) (g : Nat → Bool) (b : Nat) : ldB g (b : Int) A = true ↔ ∃ a : Nat, a < n ∧ g a = false ∧ ((a : Int), (b : Int)) ∈ A := by
  unfold ldB
  rw [List.any_eq_true]
  constructor
  · rintro ⟨p, hp, h⟩
    obtain ⟨a, c, ha, _, rfl⟩ := hA p hp
    simp only [Bool.and_eq_true, beq_iff_eq, Bool.not_eq_true', Int.toNat_natCast] at h
    obtain ⟨h1, h2⟩ := h
    rw [h1] at hp
    exact ⟨a, ha, h2, hp⟩
  · rintro ⟨a, _, h2, h3⟩
    exact ⟨_, h3, by simp [h2]⟩

/-- How many are still there. -/
def stay (n : Nat) (g : Nat → Bool) : Nat := ((List.range n).filter fun i => !g i).length

def take1 (g : Nat → Bool) (i : Nat) : Nat → Bool := fun j => if j = i then true else g j

theorem stay_take {n : Nat} {g : Nat → Bool} {i : Nat} (hi : i < n) (hg : g i = false) : stay n (take1 g i) + 1 = stay n g := by
  unfold stay take1
  induction n with
  | zero => omega
  | succ n ih =>
    rw [List.range_succ, List.filter_append, List.filter_append, List.length_append, List.length_append]
    by_cases e : i = n
    · subst e
      have h1 : (List.range i).filter (fun j => !(if j = i then true else g j)) = (List.range i).filter (fun j => !g j) := by
        refine List.filter_congr fun j hj => ?_
        have : j < i := by simpa using hj
        rw [if_neg (by omega)]
      rw [h1]
      simp [hg]
    · have := ih (by omega)
      have h2 : ¬ n = i := fun h => e h.symm
      simp only [List.filter_cons, List.filter_nil, if_neg h2]
      omega

theorem stay_zero {n : Nat} {g : Nat → Bool} (h : stay n g = 0) : ∀ i, i < n → g i = true := by
  intro i hi
  cases hg : g i
  · have := stay_take hi hg; omega
  · rfl

theorem stay_all (n : Nat) : stay n (fun _ => false) = n := by
  show ((List.range n).filter fun _ => true).length = n
  rw [List.filter_eq_self.2 (fun _ _ => rfl), List.length_range]

theorem stay_le (n : Nat) (g : Nat → Bool) : stay n g ≤ n := by
  unfold stay
  have := List.length_filter_le (fun i => !g i) (List.range n)
  simpa using this

theorem stay_pos {n : Nat} {g : Nat → Bool} (h : 0 < stay n g) : ∃ i, i < n ∧ g i = false := by
  unfold stay at h
  obtain ⟨i, hi⟩ := List.exists_mem_of_length_pos h
  rw [List.mem_filter] at hi
  exact ⟨i, by simpa using hi.1, by simpa using hi.2⟩

/-- Nothing more can be taken away. -/
def Stable (n : Nat) (A : List (Int × Int)) (g : Nat → Bool) : Prop := ∀ b, b < n → g b = false → ldB g (b : Int) A = true

/-- No set that keeps itself has lost anything. -/
def Safe (n : Nat) (A : List (Int × Int)) (g : Nat → Bool) : Prop := ∀ S, Core n A S → ∀ b, b < n → S b → g b = false

theorem Safe.start (n : Nat) (A : List (Int × Int)) : Safe n A (fun _ => false) := fun _ _ _ _ _ => rfl

theorem Safe.take {n : Nat} {A : List (Int × Int)} {g : Nat → Bool} (hA : Arws n A) (h : Safe n A g) {i : Nat} (hl : ldB g (i : Int) A = false) : Safe n A (take1 g i) := by
  intro S hS b hb hSb
  unfold take1
  by_cases e : b = i
  · subst e
    obtain ⟨a, ha, hSa, hm⟩ := hS b hb hSb
    have := (ldB_iff hA g b).2 ⟨a, ha, h S hS a ha hSa, hm⟩
    rw [hl] at this
    cases this
  · rw [if_neg e]; exact h S hS b hb hSb

/-- In the midst of a turn. -/
structure Turn (n : Nat) (A : List (Int × Int)) (t i : Nat) (g : Nat → Bool) : Prop where
  safe : Safe n A g
  step : stay n g + (t + 1) ≤ n ∨ (stay n g + t ≤ n ∧ ∀ b, b < i → g b = false → ldB g (b : Int) A = true) ∨ Stable n A g

theorem Turn.first (n : Nat) (A : List (Int × Int)) : Turn n A 0 0 (fun _ => false) := ⟨Safe.start n A, .inr (.inl ⟨by rw [stay_all]; omega, fun b hb => by omega⟩)⟩

theorem Turn.gone {n : Nat} {A : List (Int × Int)} {t i : Nat} {g : Nat → Bool} (h : Turn n A t i g) (hg : g i = true) : Turn n A t (i + 1) g := by
  refine ⟨h.safe, ?_⟩
  rcases h.step with h1 | ⟨h1, h2⟩ | h1
  · exact .inl h1
  · refine .inr (.inl ⟨h1, fun b hb hgb => ?_⟩)
    by_cases e : b = i
    · subst e; rw [hg] at hgb; cases hgb
    · exact h2 b (by omega) hgb
  · exact .inr (.inr h1)

theorem Turn.stays {n : Nat} {A : List (Int × Int)} {t i : Nat} {g : Nat → Bool} (h : Turn n A t i g) (hl : ldB g (i : Int) A = true) : Turn n A t (i + 1) g := by
  refine ⟨h.safe, ?_⟩
  rcases h.step with h1 | ⟨h1, h2⟩ | h1
  · exact .inl h1
  · refine .inr (.inl ⟨h1, fun b hb hgb => ?_⟩)
    by_cases e : b = i
    · subst e; exact hl
    · exact h2 b (by omega) hgb
  · exact .inr (.inr h1)

theorem Turn.takes {n : Nat} {A : List (Int × Int)} (hA : Arws n A) {t i : Nat} {g : Nat → Bool} (h : Turn n A t i g) (hi : i < n) (hg : g i = false) (hl : ldB g (i : Int) A = false) : Turn n A t (i + 1) (take1 g i) := by
  have hs := stay_take hi hg
  refine ⟨h.safe.take hA hl, ?_⟩
  rcases h.step with h1 | ⟨h1, _⟩ | h1
  · exact .inl (by omega)
  · exact .inl (by omega)
  · have := h1 i hi hg
    rw [hl] at this
    cases this

theorem Turn.next {n : Nat} {A : List (Int × Int)} {t : Nat} {g : Nat → Bool} (h : Turn n A t n g) : Turn n A (t + 1) 0 g := by
  refine ⟨h.safe, ?_⟩
  rcases h.step with h1 | ⟨_, h2⟩ | h1
  · exact .inr (.inl ⟨h1, fun b hb => by omega⟩)
  · exact .inr (.inr h2)
  · exact .inr (.inr h1)

theorem Turn.last {n : Nat} {A : List (Int × Int)} (hA : Arws n A) {g : Nat → Bool} (h : Turn n A n 0 g) : decide (0 < stay n g) = true ↔ Cyc n A := by
  rw [decide_eq_true_eq]
  constructor
  · intro h0
    rcases h.step with h1 | ⟨h1, _⟩ | h1
    · omega
    · omega
    · obtain ⟨i, hi, hgi⟩ := stay_pos h0
      refine ⟨fun b => g b = false, ⟨i, hi, hgi⟩, fun b hb hgb => ?_⟩
      exact (ldB_iff hA g b).1 (h1 b hb hgb)
  · rintro ⟨S, ⟨b, hb, hSb⟩, hS⟩
    refine Nat.pos_of_ne_zero fun h0 => ?_
    have h1 := stay_zero h0 b hb
    rw [h.safe S hS b hb hSb] at h1
    cases h1

end Go.Proofs.YtomijmikkbhgmaaGreat

namespace Go.Proofs.YtomijmikkbhgmaaGreat
open Go.RowKit

structure ArwC (w : World) (b off : Nat) (p : Int × Int) : Prop where
  c0 : w.cell? ⟨b, off, none⟩ = some (.int .i64 p.1)
  c1 : w.cell? ⟨b, off + 1, none⟩ = some (.int .i64 p.2)
theorem arwC_keeps : Keeps ArwC := fun _ _ _ _ _ hb h => ⟨keep_cell hb h.c0, keep_cell hb h.c1⟩
def ArwAt (w : World) (v : Value) (l : List (Int × Int)) : Prop := ∃ ao b off cap, SlAt w 2 ArwC v l ao b off cap
theorem ArwAt.keep {w w' : World} {v : Value} {l : List (Int × Int)} (h : ArwAt w v l) (hb : Below w.heap.size w w') : ArwAt w' v l := by
  obtain ⟨ao, b, off, cap, h⟩ := h
  exact ⟨ao, b, off, cap, h.keep arwC_keeps hb⟩

theorem Tryz.infoBool : (Tryz.prog.info? 4).map (fun i => (i.zero, i.size, i.bytes)) = some (some (.bool false), 1, 1) := by kernel_rfl

theorem ldB_hit {g : Nat → Bool} {to : Int} {p : Int × Int} (A : List (Int × Int)) (h1 : p.2 = to) (h2 : g p.1.toNat = false) : ldB g to (p :: A) = true := by simp [ldB, h1, h2]
theorem ldB_mis {g : Nat → Bool} {to : Int} {p : Int × Int} (A : List (Int × Int)) (h : p.2 = to → g p.1.toNat = true) : ldB g to (p :: A) = ldB g to A := by
  unfold ldB
  rw [List.any_cons]
  by_cases e : p.2 = to
  · simp [e, h e]
  · simp [e]

set_option maxHeartbeats 1000000 in
theorem leads_any (n : Nat) (_hn : n ≤ 100000) (A : List (Int × Int)) (hA : Arws n A) (hl : A.length ≤ 1000000) (g : Nat → Bool) (bT : Nat) (to : Int) (v : Value) (w : World) (h : ArwAt w v A) (hr : w.rowIs bT 4 n (fun i => .bool (g i))) :
    Calls Tryz.prog 148 #[v, .slice (some ⟨bT, 0, none⟩) n n, .int .i64 to] w fun e w' => e = .returned (.bool (ldB g to A)) ∧ w' = w := by
  obtain ⟨ao, b, off, cap, hv, ha, _, hc⟩ := h
  subst hv
  have HC : Hid ((∀ k p, A[k]? = some p → ArwC w b (off + k * 2) p) ∧ Arws n A ∧ w.rowIs bT 4 n (fun i => .bool (g i))) := ⟨hc, hA, hr⟩
  generalize hB : ldB g to A = B
  have HB : Hid (B = ldB g to (A.drop 0)) := hB.symm
  clear hc hA hr hB
  go_enter Tryz.func148, Tryz.ntmps148
  go_wp2_with fail
  go_loop [7] (fun i => ∃ k : Nat, k ≤ A.length ∧ i = .int .i64 k ∧ Hid (B = ldB g to (A.drop k))) (fun i => A.length - (intOf i).toNat)
  case atStart => exact ⟨0, Nat.zero_le _, rfl, HB.out⟩
  case round =>
    clear HB
    obtain ⟨k, hk, rfl, hn2⟩ := hrel
    by_cases hlt : k < A.length
    · obtain ⟨p, hp⟩ := get_of_lt hlt
      obtain ⟨a, c, ha3, hc3, rfl⟩ := HC.out.2.1 p (List.mem_of_getElem? hp)
      have hN : Hid (B = ldB g to (((a : Int), (c : Int)) :: A.drop (k + 1))) := by rw [← drop_cons hp]; exact hn2
      obtain ⟨c0, c1⟩ := HC.out.1 k _ hp
      obtain rfl := ha (ne_nil hlt)
      simp only at c0 c1
      have r0 := HC.out.2.2.cell ha3
      have haI : (a : Int) < (n : Int) := by omega
      have hkI : (k : Int) < (A.length : Int) := by omega
      clear hn2 hp
      cases h1 : ((c : Int) == to)
      · have HM : Hid (B = ldB g to (A.drop (k + 1))) := hN.out.trans (ldB_mis _ (fun e => by simp at h1; exact absurd e h1))
        clear hN
        go_wp2_with fail
        go_round
        case measure => simp [intOf]; omega
        case rel => exact ⟨k + 1, by omega, by go_num, HM.out⟩
      · cases h2 : g a
        · have HM : Hid (B = true) := hN.out.trans (ldB_hit _ (by simpa using h1) (by simpa using h2))
          clear hN
          go_wp2_with fail
          go_ret
          exact ⟨by rw [HM.out]; rfl, rfl⟩
        · have HM : Hid (B = ldB g to (A.drop (k + 1))) := hN.out.trans (ldB_mis _ (fun _ => by simpa using h2))
          clear hN
          go_wp2_with fail
          go_round
          case measure => simp [intOf]; omega
          case rel => exact ⟨k + 1, by omega, by go_num, HM.out⟩
    · have HM : Hid (B = false) := hn2.out.trans (by rw [drop_nil hlt]; rfl)
      clear hn2
      go_wp2_with fail
      go_ret
      exact ⟨by rw [HM.out]; rfl, rfl⟩

end Go.Proofs.YtomijmikkbhgmaaGreat
