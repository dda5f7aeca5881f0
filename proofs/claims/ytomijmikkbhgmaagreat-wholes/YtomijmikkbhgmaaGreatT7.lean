import Derived.Test.YtomijmikkbhgmaaGreatT3
import Derived.Test.YtomijmikkbhgmaaGreatLt
import Derived.Deep.RegionWith
namespace Go.Proofs.YtomijmikkbhgmaaGreat
open Go.RowKit

theorem Tryz.infoInts : (Tryz.prog.info? 26).map (fun i => (i.zero, i.size, i.bytes)) = some (some (.slice none 0 0), 1, 24) := by kernel_rfl

def LC (w : World) (b off : Nat) (x : List Int) : Prop := ∃ u, w.cell? ⟨b, off, none⟩ = some u ∧ IntAt w u x
def LstAt (w : World) (v : Value) (L : List (List Int)) : Prop := ∃ ao b off cap, SlAt w 1 LC v L ao b off cap

theorem lc_keeps : Keeps LC := fun _ _ _ _ _ hb ⟨u, h1, h2⟩ => ⟨u, keep_cell hb h1, h2.keep hb⟩
theorem LstAt.keep {w w' : World} {v : Value} {L : List (List Int)} (h : LstAt w v L) (hb : Below w.heap.size w w') : LstAt w' v L := by
  obtain ⟨ao, b, off, cap, h⟩ := h
  exact ⟨ao, b, off, cap, h.keep lc_keeps hb⟩

structure ExeAt (w : World) (vf vo : Value) (x : Exe) : Prop where
  f : IntAt w vf x.from'
  o : LstAt w vo x.order
theorem ExeAt.keep {w w' : World} {vf vo : Value} {x : Exe} (h : ExeAt w vf vo x) (hb : Below w.heap.size w w') : ExeAt w' vf vo x := ⟨h.f.keep hb, h.o.keep hb⟩

theorem IntAt.form {w : World} {v : Value} {l : List Int} (h : IntAt w v l) : ∃ ao cap, v = .slice ao l.length cap := by
  obtain ⟨ao, b, off, cap, h⟩ := h
  exact ⟨ao, cap, h.hv⟩

theorem IntAt.other {w w' : World} {v : Value} {l : List Int} (h : IntAt w v l) (hs : ∀ b : Nat, v.ownBlock = some b → w'.heap[b]? = w.heap[b]?) : IntAt w' v l := by
  obtain ⟨ao, b, off, cap, hv, ha, hn, hc⟩ := h
  refine ⟨ao, b, off, cap, hv, ha, hn, fun k x hx => ?_⟩
  have hk : k < l.length := (List.getElem?_eq_some_iff.1 hx).1
  exact cell_heap (hs b (by rw [hv, ha (ne_nil hk)]; rfl)) (hc k x hx)

/-- A slice of numbers with room enough. -/
def IntCap (w : World) (v : Value) (l : List Int) : Prop := ∃ ao b off cap, SlAt w 1 IntC v l ao b off cap ∧ l.length ≤ cap
theorem IntNew.cap {B : Nat} {w : World} {v : Value} {l : List Int} (h : IntNew B w v l) : IntCap w v l := by
  obtain ⟨ao, b, off, cap, h1, _, h2⟩ := h
  exact ⟨ao, b, off, cap, h1, h2⟩
theorem IntCap.at' {w : World} {v : Value} {l : List Int} (h : IntCap w v l) : IntAt w v l := by
  obtain ⟨ao, b, off, cap, h1, _⟩ := h
  exact ⟨ao, b, off, cap, h1⟩
theorem IntCap.keep {w w' : World} {v : Value} {l : List Int} (h : IntCap w v l) (hb : Below w.heap.size w w') : IntCap w' v l := by
  obtain ⟨ao, b, off, cap, h1, h2⟩ := h
  exact ⟨ao, b, off, cap, h1.keep intC_keeps hb, h2⟩
theorem intCap_nil (w : World) : IntCap w (.slice none 0 0) [] := ⟨none, 0, 0, 0, ⟨rfl, fun h => absurd rfl h, fun _ => ⟨rfl, rfl⟩, fun k x h => by simp at h⟩, Nat.le_refl _⟩

theorem IntCap.other {w w' : World} {v : Value} {l : List Int} (h : IntCap w v l) (hs : ∀ b : Nat, v.ownBlock = some b → w'.heap[b]? = w.heap[b]?) : IntCap w' v l := by
  obtain ⟨ao, b, off, cap, ⟨hv, ha, hn, hc⟩, hl⟩ := h
  refine ⟨ao, b, off, cap, ⟨hv, ha, hn, fun k x hx => ?_⟩, hl⟩
  have hk : k < l.length := (List.getElem?_eq_some_iff.1 hx).1
  exact cell_heap (hs b (by rw [hv, ha (ne_nil hk)]; rfl)) (hc k x hx)
theorem IntCap.form {w : World} {v : Value} {l : List Int} (h : IntCap w v l) : ∃ ao cap, v = .slice ao l.length cap := h.at'.form

def LCC (w : World) (b off : Nat) (x : List Int) : Prop := ∃ u, w.cell? ⟨b, off, none⟩ = some u ∧ IntCap w u x
theorem lcc_keeps : Keeps LCC := fun _ _ _ _ _ hb ⟨u, h1, h2⟩ => ⟨u, keep_cell hb h1, h2.keep hb⟩

def LstC (w : World) (v : Value) (L : List (List Int)) : Prop := ∃ ao b off cap, SlAt w 1 LCC v L ao b off cap
theorem LstC.keep {w w' : World} {v : Value} {L : List (List Int)} (h : LstC w v L) (hb : Below w.heap.size w w') : LstC w' v L := by
  obtain ⟨ao, b, off, cap, h⟩ := h
  exact ⟨ao, b, off, cap, h.keep lcc_keeps hb⟩

/-- An execution whose lists have room for themselves. -/
structure ExeC (w : World) (vf vo : Value) (x : Exe) : Prop where
  f : IntAt w vf x.from'
  o : ∃ ao b off cap, SlAt w 1 LCC vo x.order ao b off cap
theorem ExeC.keep {w w' : World} {vf vo : Value} {x : Exe} (h : ExeC w vf vo x) (hb : Below w.heap.size w w') : ExeC w' vf vo x := by
  obtain ⟨ao, b, off, cap, hs⟩ := h.o
  exact ⟨h.f.keep hb, ao, b, off, cap, hs.keep lcc_keeps hb⟩
theorem ExeC.at' {w : World} {vf vo : Value} {x : Exe} (h : ExeC w vf vo x) : ExeAt w vf vo x := by
  obtain ⟨ao, b, off, cap, hs⟩ := h.o
  refine ⟨h.f, ao, b, off, cap, hs.hv, hs.ha, hs.hn, fun k l hl => ?_⟩
  obtain ⟨u, h1, h2⟩ := hs.hc k l hl
  exact ⟨u, h1, h2.at'⟩

/-- A slice of slices of the call's own, each of whose rows lies in a block of its own. -/
structure LL (w : World) (base : Nat) (V : Value) (L : List (List Int)) (vs : List Value) : Prop where
  len : vs.length = L.length
  own : w.ownsRow base 26 1 V L.length vs
  rows : ∀ (j : Nat) (x : List Int), L[j]? = some x → ∃ u, vs[j]? = some u ∧ IntCap w u x ∧ ∀ b, u.ownBlock = some b → base ≤ b ∧ b < w.heap.size ∧ V.ownBlock ≠ some b

theorem LL.nil (w : World) (base : Nat) : LL w base (.slice none 0 0) [] [] := ⟨rfl, World.ownsRow_nil _ _ _ _, fun j x h => by simp at h⟩

theorem LL.other {w w' : World} {base : Nat} {V : Value} {L : List (List Int)} {vs : List Value} (h : LL w base V L vs) (hsz : w.heap.size ≤ w'.heap.size) (hs : ∀ b : Nat, base ≤ b → b < w.heap.size → w'.heap[b]? = w.heap[b]?) : LL w' base V L vs := by
  refine ⟨h.len, own_other h.own (fun b hb => hs b (h.own.lt b hb).1 (h.own.lt b hb).2), fun j x hx => ?_⟩
  obtain ⟨u, h1, h2, h3⟩ := h.rows j x hx
  exact ⟨u, h1, h2.other (fun b hb => hs b (h3 b hb).1 (h3 b hb).2.1), fun b hb => ⟨(h3 b hb).1, Nat.lt_of_lt_of_le (h3 b hb).2.1 hsz, (h3 b hb).2.2⟩⟩
theorem LL.keep {w w' : World} {base : Nat} {V : Value} {L : List (List Int)} {vs : List Value} (h : LL w base V L vs) (hb : Below w.heap.size w w') : LL w' base V L vs := h.other hb.size (fun b _ hb2 => hb.block b hb2)
theorem LL.only {B : Nat} {w w' : World} {base : Nat} {V : Value} {L : List (List Int)} {vs : List Value} (h : LL w base V L vs) (ho : Only B w w') (hB : B < base) : LL w' base V L vs := h.other ho.size (fun b h1 h2 => ho.block b h2 (by omega))

theorem LL.snoc {w w2 : World} {base : Nat} {V V' : Value} {L : List (List Int)} {vs : List Value} (h : LL w base V L vs) {x : List Int} {u : Value} {o : Obj} (hu : IntCap w u x)
    (hub : ∀ b, u.ownBlock = some b → base ≤ b ∧ b < w.heap.size ∧ V.ownBlock ≠ some b) (hown : w2.ownsRow base 26 1 V' (L.length + 1) (vs ++ [u])) (hg : (w.alloc o).grownBy w2 V.ownBlock)
    (hap : ∀ g, V'.ownBlock = some g → V.ownBlock = some g ∨ w.heap.size + 1 ≤ g) : LL w2 base V' (L ++ [x]) (vs ++ [u]) := by
  have hsz : w.heap.size + 1 ≤ w2.heap.size := by have := hg.size; simpa using this
  have key : ∀ b : Nat, b < w.heap.size → V.ownBlock ≠ some b → w2.heap[b]? = w.heap[b]? := by
    intro b hb hne
    rw [hg.block b (by simp; omega) (fun e => hne e.symm), Below.heap_alloc _ _ _ hb]
  refine ⟨by simp [h.len], by simpa using hown, fun j y hy => ?_⟩
  by_cases hj : j < L.length
  · rw [List.getElem?_append_left hj] at hy
    obtain ⟨z, h1, h2, h3⟩ := h.rows j y hy
    refine ⟨z, by rw [List.getElem?_append_left (by rw [h.len]; exact hj)]; exact h1, h2.other (fun b hb => key b (h3 b hb).2.1 (h3 b hb).2.2), fun b hb => ?_⟩
    have h4 := (h3 b hb).2.1
    refine ⟨(h3 b hb).1, by omega, fun e => ?_⟩
    rcases hap b e with e' | e'
    · exact (h3 b hb).2.2 e'
    · omega
  · have hjL : j = L.length := by
      have := (List.getElem?_eq_some_iff.1 hy).1
      simp at this; omega
    subst hjL
    rw [List.getElem?_append_right (Nat.le_refl _), Nat.sub_self] at hy
    simp at hy
    subst hy
    refine ⟨u, by rw [List.getElem?_append_right (by rw [h.len]; exact Nat.le_refl _), h.len]; simp, hu.other (fun b hb => key b (hub b hb).2.1 (hub b hb).2.2), fun b hb => ?_⟩
    have h4 := (hub b hb).2.1
    refine ⟨(hub b hb).1, by omega, fun e => ?_⟩
    rcases hap b e with e' | e'
    · exact (hub b hb).2.2 e'
    · omega

/-- A list of lists in memory that is new: from block B on, its rows too. -/
def LstNew (B : Nat) (w : World) (v : Value) (L : List (List Int)) : Prop :=
  ∃ ao b off cap, v = .slice ao L.length cap ∧ (L ≠ [] → ao = some ⟨b, off, none⟩) ∧ (ao = none → L = [] ∧ cap = 0) ∧ B ≤ b ∧
    ∀ (k : Nat) (x : List Int), L[k]? = some x → ∃ u, w.cell? ⟨b, off + k, none⟩ = some u ∧ IntCap w u x ∧ ∀ g, u.ownBlock = some g → B ≤ g ∧ g < w.heap.size

theorem LL.read {w : World} {base : Nat} {V : Value} {L : List (List Int)} {vs : List Value} (h : LL w base V L vs) : LstNew base w V L := by
  rcases h.own.2 with ⟨hv, hn⟩ | ⟨g, cap, cur, hv, hg, hh, _⟩
  · have h0 : L = [] := List.eq_nil_of_length_eq_zero hn
    subst h0
    exact ⟨none, base, 0, 0, hv, fun h => absurd rfl h, fun _ => ⟨rfl, rfl⟩, Nat.le_refl _, fun k x h => by simp at h⟩
  · refine ⟨_, g, 0, cap, hv, fun _ => rfl, fun h => by simp at h, hg, fun k x hk => ?_⟩
    obtain ⟨u, h1, h2, h3⟩ := h.rows k x hk
    have := h.own.cells (g := g) (by rw [hv]; rfl) k u h1
    rw [Addr.add_lit] at this
    exact ⟨u, this, h2, fun b hb => ⟨(h3 b hb).1, (h3 b hb).2.1⟩⟩

theorem LstNew.at' {B : Nat} {w : World} {v : Value} {L : List (List Int)} (h : LstNew B w v L) : LstAt w v L := by
  obtain ⟨ao, b, off, cap, hv, ha, hn, _, hc⟩ := h
  refine ⟨ao, b, off, cap, hv, ha, hn, fun k x hx => ?_⟩
  obtain ⟨u, h1, h2, _⟩ := hc k x hx
  rw [Nat.mul_one]
  exact ⟨u, h1, h2.at'⟩
theorem LstNew.caps {B : Nat} {w : World} {v : Value} {L : List (List Int)} (h : LstNew B w v L) : ∃ ao b off cap, SlAt w 1 LCC v L ao b off cap := by
  obtain ⟨ao, b, off, cap, hv, ha, hn, _, hc⟩ := h
  refine ⟨ao, b, off, cap, hv, ha, hn, fun k x hx => ?_⟩
  obtain ⟨u, h1, h2, _⟩ := hc k x hx
  rw [Nat.mul_one]
  exact ⟨u, h1, h2⟩

/-- What is left of a slice behind its first k entries. -/
theorem intCap_drop {w : World} {l : List Int} {b off cap : Nat} (h : SlAt w 1 IntC (.slice (some ⟨b, off, none⟩) l.length cap) l (some ⟨b, off, none⟩) b off cap) (hc : l.length ≤ cap) {k : Nat} (hk : k ≤ l.length) :
    IntCap w (.slice (if cap = k then (some ⟨b, off, none⟩ : Option Addr) else some ⟨b, off + k, none⟩) (l.length - k) (cap - k)) (l.drop k) := by
  by_cases e : cap = k
  · rw [if_pos e]
    have hd : l.drop k = [] := List.drop_eq_nil_of_le (by omega)
    rw [hd]
    exact ⟨_, b, off, _, ⟨by rw [show l.length - k = 0 by omega]; rfl, fun h => absurd rfl h, fun h => by simp at h, fun k x h => by simp at h⟩, Nat.zero_le _⟩
  · rw [if_neg e]
    refine ⟨_, b, off + k, _, ⟨by rw [List.length_drop], fun _ => rfl, fun h => by simp at h, fun j x hx => ?_⟩, by rw [List.length_drop]; omega⟩
    rw [List.getElem?_drop] at hx
    have := h.hc (k + j) x hx
    unfold IntC at this ⊢
    rw [Nat.mul_one] at this ⊢
    rw [Nat.add_assoc]; exact this

end Go.Proofs.YtomijmikkbhgmaaGreat

namespace Go.Proofs.YtomijmikkbhgmaaGreat
open Go.RowKit

set_option maxHeartbeats 1000000 in
theorem sameInts_any (l : List Int) (hl : l.length ≤ 100000) (u v : Value) (w : World) (hu : IntAt w u l) (hv : IntAt w v l) :
    Calls Tryz.prog 20 #[u, v] w fun e w' => e = .returned (.bool true) ∧ Below w.heap.size w w' := by
  obtain ⟨ao, b, off, cap, hv1, ha, _, hc⟩ := hu
  obtain ⟨ao2, b2, off2, cap2, hv2, ha2, _, hc2⟩ := hv
  subst hv1 hv2
  have HC : Hid ((∀ k x, l[k]? = some x → IntC w b (off + k * 1) x) ∧ (∀ k x, l[k]? = some x → IntC w b2 (off2 + k * 1) x)) := ⟨hc, hc2⟩
  clear hc hc2
  have k0 : ((l.length : Int) != (l.length : Int)) = false := by simp
  go_enter Tryz.func20, Tryz.ntmps20
  go_wp2_with fail
  go_loopw [5] (fun i wr => ∃ k : Nat, k ≤ l.length ∧ i = .int .i64 k ∧ Below w.heap.size w wr) (fun i _ => l.length - (intOf i).toNat)
  case atStart => exact ⟨0, Nat.zero_le _, rfl, Below.refl _ _⟩
  case round =>
    obtain ⟨k, hk, rfl, hb⟩ := hrel
    by_cases hlt : k < l.length
    · obtain ⟨x, hx⟩ := get_of_lt hlt
      obtain rfl := ha (ne_nil hlt)
      obtain rfl := ha2 (ne_nil hlt)
      have c0 := intC_keeps _ _ _ _ _ hb (HC.out.1 k x hx)
      have d0 := intC_keeps _ _ _ _ _ hb (HC.out.2 k x hx)
      unfold IntC at c0 d0
      rw [Nat.mul_one] at c0 d0
      have n0 : (x != x) = false := by simp
      have hkI : (k : Int) < (l.length : Int) := by omega
      clear hx
      go_wp2_with fail
      go_quiet (fail)
      go_wp2_with fail
      go_roundw
      case measure => simp [intOf]; omega
      case rel => exact ⟨k + 1, by omega, by go_num, below_drewN hb _⟩
    · go_wp2_with fail
      go_ret
      exact ⟨rfl, hb⟩

set_option maxHeartbeats 1000000 in
theorem sameLists_any (L : List (List Int)) (hL : L.length ≤ 100000) (hl : ∀ x ∈ L, x.length ≤ 100000) (u v : Value) (w : World) (hu : LstAt w u L) (hv : LstAt w v L) :
    Calls Tryz.prog 52 #[u, v] w fun e w' => e = .returned (.bool true) ∧ Below w.heap.size w w' := by
  obtain ⟨ao, b, off, cap, hv1, ha, _, hc⟩ := hu
  obtain ⟨ao2, b2, off2, cap2, hv2, ha2, _, hc2⟩ := hv
  subst hv1 hv2
  have HC : Hid ((∀ k x, L[k]? = some x → LC w b (off + k * 1) x) ∧ (∀ k x, L[k]? = some x → LC w b2 (off2 + k * 1) x) ∧ ∀ x ∈ L, x.length ≤ 100000) := ⟨hc, hc2, hl⟩
  clear hc hc2 hl
  have k0 : ((L.length : Int) != (L.length : Int)) = false := by simp
  go_enter Tryz.func52, Tryz.ntmps52
  go_wp2_with fail
  go_loopw [5] (fun i wr => ∃ k : Nat, k ≤ L.length ∧ i = .int .i64 k ∧ Below w.heap.size w wr) (fun i _ => L.length - (intOf i).toNat)
  case atStart => exact ⟨0, Nat.zero_le _, rfl, Below.refl _ _⟩
  case round =>
    obtain ⟨k, hk, rfl, hb⟩ := hrel
    by_cases hlt : k < L.length
    · obtain ⟨x, hx⟩ := get_of_lt hlt
      obtain rfl := ha (ne_nil hlt)
      obtain rfl := ha2 (ne_nil hlt)
      obtain ⟨u1, c0, i1⟩ := lc_keeps _ _ _ _ _ hb (HC.out.1 k x hx)
      obtain ⟨u2, d0, i2⟩ := lc_keeps _ _ _ _ _ hb (HC.out.2.1 k x hx)
      rw [Nat.mul_one] at c0 d0
      have HI : Hid (IntAt wr u1 x ∧ IntAt wr u2 x ∧ x.length ≤ 100000) := ⟨i1, i2, HC.out.2.2 x (List.mem_of_getElem? hx)⟩
      have hkI : (k : Int) < (L.length : Int) := by omega
      clear hx i1 i2
      go_wp2_with fail
      go_region_with (go_at_call 20; refine (sameInts_any x HI.out.2.2 u1 u2 _ (HI.out.1.keep (Below.refl _ _).drew) (HI.out.2.1.keep (Below.refl _ _).drew)).mono ?_; rintro e w5 ⟨rfl, hb5⟩)
      all_goals
        go_wp2_with fail
        go_roundw
        case measure => simp [intOf]; omega
        case rel => exact ⟨k + 1, by omega, by go_num, below_more hb.drew hb5⟩
    · go_wp2_with fail
      go_ret
      exact ⟨rfl, hb⟩

set_option maxHeartbeats 1000000 in
theorem sameExec_any (x : Exe) (h1 : x.from'.length ≤ 100000) (h2 : x.order.length ≤ 100000) (h3 : ∀ y ∈ x.order, y.length ≤ 100000) (f1 o1 f2 o2 : Value) (w : World) (hu : ExeAt w f1 o1 x) (hv : ExeAt w f2 o2 x) :
    Calls Tryz.prog 29 #[.agg #[f1, o1], .agg #[f2, o2]] w fun e w' => e = .returned (.bool true) ∧ Below w.heap.size w w' := by
  have HU : Hid (ExeAt w f1 o1 x ∧ ExeAt w f2 o2 x) := ⟨hu, hv⟩
  clear hu hv
  go_enter Tryz.func29, Tryz.ntmps29
  go_wp2_with fail
  refine (sameInts_any x.from' h1 f1 f2 _ (HU.out.1.f.keep (below_two _ _ _)) (HU.out.2.f.keep (below_two _ _ _))).mono ?_
  rintro e w3 ⟨rfl, hb3⟩
  have e0 := keep_cell hb3 (b := w.heap.size) (off := 1) (u := o1) (by simp)
  have e1 := keep_cell hb3 (b := w.heap.size + 1) (off := 1) (u := o2) (by simp)
  have hbw := below_more (below_two _ _ _) hb3
  clear hb3
  go_wp2_with fail
  refine (sameLists_any x.order h2 h3 o1 o2 _ (HU.out.1.o.keep hbw) (HU.out.2.o.keep hbw)).mono ?_
  rintro e w4 ⟨rfl, hb4⟩
  go_wp2_with fail
  go_ret
  exact ⟨rfl, below_more hbw hb4⟩

end Go.Proofs.YtomijmikkbhgmaaGreat

namespace Go.Proofs.YtomijmikkbhgmaaGreat

/-! writes of a location -/
theorem wrs_mem {E : List Evt} {k : Nat} {loc w : Int} (h : w ∈ wrs E k loc) : ∃ i x, E[i]? = some x ∧ w = ((k + i : Nat) : Int) ∧ x.kind = 1 ∧ x.loc = loc := by
  induction E generalizing k with
  | nil => simp [wrs] at h
  | cons y E ih =>
    have key : w ∈ wrs E (k + 1) loc → ∃ i x, (y :: E)[i]? = some x ∧ w = ((k + i : Nat) : Int) ∧ x.kind = 1 ∧ x.loc = loc := by
      intro hw
      obtain ⟨i, x, h1, h2, h3⟩ := ih hw
      exact ⟨i + 1, x, by simpa using h1, by rw [h2]; congr 1; omega, h3⟩
    unfold wrs at h
    split at h
    · rename_i hc
      rcases List.mem_cons.1 h with rfl | h
      · simp only [Bool.and_eq_true, beq_iff_eq] at hc
        exact ⟨0, y, rfl, rfl, hc.1, hc.2⟩
      · exact key h
    · exact key h

theorem wrs_sorted (E : List Evt) (k : Nat) (loc : Int) : (wrs E k loc).Pairwise (· < ·) := by
  induction E generalizing k with
  | nil => simp [wrs]
  | cons y E ih =>
    unfold wrs
    split
    · refine List.pairwise_cons.2 ⟨fun w hw => ?_, ih (k + 1)⟩
      obtain ⟨i, x, _, h2, _⟩ := wrs_mem hw
      omega
    · exact ih (k + 1)

/-- How often an event stands in the list of a location's writes. -/
theorem wrs_count {E : List Evt} {k i : Nat} {loc : Int} {x : Evt} (h : E[i]? = some x) : (wrs E k loc).count ((k + i : Nat) : Int) = if x.kind == 1 && x.loc == loc then 1 else 0 := by
  induction E generalizing k i with
  | nil => simp at h
  | cons y E ih =>
    cases i with
    | zero =>
      simp at h
      subst h
      have h0 : (wrs E (k + 1) loc).count ((k + 0 : Nat) : Int) = 0 := by
        refine List.count_eq_zero.2 fun hm => ?_
        obtain ⟨j, z, _, h2, _⟩ := wrs_mem hm
        omega
      unfold wrs
      split
      · rw [List.count_cons, h0]; simp
      · exact h0
    | succ i =>
      have h1 := ih (k := k + 1) (i := i) (by simpa using h)
      rw [show k + 1 + i = k + (i + 1) by omega] at h1
      unfold wrs
      split
      · rw [List.count_cons, h1, if_neg (show ¬ ((k : Int) == ((k + (i + 1) : Nat) : Int)) = true by simp; omega), Nat.add_zero]
      · exact h1

/-! the tally -/
def isW (x : Ins) : Bool := x.op == 0 || x.op == 1 || x.op == 3
def isR (x : Ins) : Bool := x.op == 2 || x.op == 3
def cwL (j : Int) (l : List Ins) : Nat := (l.filter fun x => isW x && x.loc == j).length
def crL (j : Int) (l : List Ins) : Nat := (l.filter fun x => isR x && x.loc == j).length
def cw (j : Int) : List (List Ins) → Nat
  | [] => 0
  | l :: T => cwL j l + cw j T
def cr (j : Int) : List (List Ins) → Nat
  | [] => 0
  | l :: T => crL j l + cr j T

def cE (k j : Int) (E : List Evt) : Nat := (E.filter fun x => x.kind == k && x.loc == j).length

theorem cE_append (k j : Int) (A B : List Evt) : cE k j (A ++ B) = cE k j A + cE k j B := by unfold cE; rw [List.filter_append, List.length_append]

theorem wrs_cE (E : List Evt) (k : Nat) (j : Int) : (wrs E k j).length = cE 1 j E := by
  induction E generalizing k with
  | nil => rfl
  | cons x E ih =>
    unfold wrs cE
    rw [List.filter_cons]
    split
    · rw [List.length_cons, List.length_cons, ih]; rfl
    · rw [ih]; rfl

theorem cE_kinds (i p : Nat) (x : Ins) (k j : Int) : cE k j (evsK i p x (kindsOf x.op)) = if x.loc == j then ((kindsOf x.op).filter fun q => q == k).length else 0 := by
  unfold cE evsK
  rw [List.filter_map, List.length_map]
  cases h : x.loc == j
  · simp [Function.comp_def, h]
  · simp [Function.comp_def, h]

theorem kinds_w (x : Ins) : ((kindsOf x.op).filter fun q => q == 1).length = if isW x then 1 else 0 := by
  unfold kindsOf isW
  repeat' split
  all_goals simp_all

theorem kinds_r (x : Ins) : ((kindsOf x.op).filter fun q => q == 0).length = if isR x then 1 else 0 := by
  unfold kindsOf isR
  repeat' split
  all_goals first
    | (simp_all; done)
    | (simp_all; omega)

theorem cE_evsI_w (i : Nat) (l : List Ins) (p : Nat) (j : Int) : cE 1 j (evsI i l p) = cwL j l := by
  induction l generalizing p with
  | nil => rfl
  | cons x l ih =>
    rw [evsI, cE_append, ih, cE_kinds, kinds_w]
    unfold cwL
    rw [List.filter_cons]
    cases isW x <;> cases x.loc == j <;> simp <;> omega

theorem cE_evsI_r (i : Nat) (l : List Ins) (p : Nat) (j : Int) : cE 0 j (evsI i l p) = crL j l := by
  induction l generalizing p with
  | nil => rfl
  | cons x l ih =>
    rw [evsI, cE_append, ih, cE_kinds, kinds_r]
    unfold crL
    rw [List.filter_cons]
    cases isR x <;> cases x.loc == j <;> simp <;> omega

theorem cE_evsT_w (T : List (List Ins)) (i : Nat) (j : Int) : cE 1 j (evsT T i) = cw j T := by
  induction T generalizing i with
  | nil => rfl
  | cons l T ih => rw [evsT, cE_append, cE_evsI_w, ih]; rfl

theorem cE_evsT_r (T : List (List Ins)) (i : Nat) (j : Int) : cE 0 j (evsT T i) = cr j T := by
  induction T generalizing i with
  | nil => rfl
  | cons l T ih => rw [evsT, cE_append, cE_evsI_r, ih]; rfl

/-! how many -/
def remL : List (Nat × Nat) → Nat
  | [] => 1
  | (w, r) :: l => (w + 1) ^ r * (fac w * remL l)

theorem remL_pos (l : List (Nat × Nat)) : 1 ≤ remL l := by
  induction l with
  | nil => exact Nat.le_refl 1
  | cons p l ih => exact Nat.mul_le_mul (Nat.pow_pos (by omega)) (Nat.mul_le_mul (fac_pos _) ih)

def tly (T : List (List Ins)) : List (Nat × Nat) := [(cw 0 T, cr 0 T), (cw 1 T, cr 1 T), (cw 2 T, cr 2 T)]

theorem prodR_pow (E R : List Evt) (h : ∀ x ∈ R, locB x.loc = true) : prodR E R = ((wrs E 0 0).length + 1) ^ cE 0 0 R * (((wrs E 0 1).length + 1) ^ cE 0 1 R * ((wrs E 0 2).length + 1) ^ cE 0 2 R) := by
  induction R with
  | nil => simp [prodR, cE]
  | cons x R ih =>
    have hx := h x (List.mem_cons_self ..)
    have ih := ih (fun y hy => h y (List.mem_cons_of_mem _ hy))
    unfold prodR
    unfold cE at ih ⊢
    rw [List.filter_cons, List.filter_cons, List.filter_cons]
    cases hk : x.kind == 0
    · simpa using ih
    · unfold locB at hx
      simp only [Bool.and_eq_true, decide_eq_true_eq] at hx
      have h3 : x.loc = 0 ∨ x.loc = 1 ∨ x.loc = 2 := by omega
      rw [ih]
      generalize hA : (wrs E 0 0).length = A at *
      generalize hB : (wrs E 0 1).length = B at *
      generalize hC : (wrs E 0 2).length = C at *
      rcases h3 with e | e | e
      · simp [e, hA, Nat.pow_succ]; rw [Nat.add_comm 1 A]; ac_rfl
      · simp [e, hB, Nat.pow_succ]; rw [Nat.add_comm 1 B]; ac_rfl
      · simp [e, hC, Nat.pow_succ]; rw [Nat.add_comm 1 C]; ac_rfl

theorem sizeN_remL (T : List (List Ins)) (h : ∀ x ∈ evsT T 0, locB x.loc = true) : sizeN (evsT T 0) = remL (tly T) := by
  unfold sizeN tly remL remL remL remL
  rw [prodR_pow _ _ h, wrs_cE, wrs_cE, wrs_cE, cE_evsT_w, cE_evsT_w, cE_evsT_w, cE_evsT_r, cE_evsT_r, cE_evsT_r, Nat.mul_one]
  ac_rfl

/-! what Check says of locations -/
theorem mayB_loc {x : Ins} (h : mayB x = true) : locB x.loc = true := by
  unfold mayB at h
  have h0 : (x.loc == 0) = true → locB x.loc = true := by intro e; have : x.loc = 0 := by simpa using e
                                                          rw [this]; rfl
  repeat' split at h
  all_goals first
    | (simp only [Bool.and_eq_true] at h; exact h.1.1.1)
    | (simp only [Bool.and_eq_true] at h; exact h0 h.1.1.1)
    | simp at h

theorem badAt_none {l : List Ins} {j : Nat} (h : badAt l j = none) : ∀ x ∈ l, mayB x = true := by
  induction l generalizing j with
  | nil => simp
  | cons y l ih =>
    cases hy : mayB y
    · rw [badAt_bad hy] at h; cases h
    · rw [badAt_ok hy] at h
      intro x hx
      rcases List.mem_cons.1 hx with rfl | hx
      · exact hy
      · exact ih h x hx

theorem insF_none {T : List (List Ins)} {i : Nat} (h : insF T i = none) : ∀ l ∈ T, ∀ x ∈ l, locB x.loc = true := by
  induction T generalizing i with
  | nil => simp
  | cons l T ih =>
    cases hb : badAt l 0 with
    | some j => rw [insF_bad hb] at h; cases h
    | none =>
      rw [insF_ok hb] at h
      intro m hm x hx
      rcases List.mem_cons.1 hm with rfl | hm
      · exact mayB_loc (badAt_none hb x hx)
      · exact ih h m hm x hx

theorem chk_locs {T : List (List Ins)} {c : List Atm} (h : ((chk T c).1 == 0) = true) : ∀ l ∈ T, ∀ x ∈ l, locB x.loc = true := by
  unfold chk at h
  cases hs : sizeB T c
  · rw [hs] at h; simp at h
  · rw [hs] at h
    cases hi : insF T 0 with
    | none => exact insF_none hi
    | some p => rw [hi] at h; simp at h

theorem evsI_locs {i : Nat} {l : List Ins} {p : Nat} (h : ∀ x ∈ l, locB x.loc = true) : ∀ x ∈ evsI i l p, locB x.loc = true := by
  induction l generalizing p with
  | nil => simp [evsI]
  | cons y l ih =>
    intro x hx
    rw [evsI] at hx
    rcases List.mem_append.1 hx with hx | hx
    · obtain ⟨k, _, rfl⟩ := List.mem_map.1 hx
      exact h y (List.mem_cons_self ..)
    · exact ih (fun z hz => h z (List.mem_cons_of_mem _ hz)) x hx

theorem evsT_locs {T : List (List Ins)} {i : Nat} (h : ∀ l ∈ T, ∀ x ∈ l, locB x.loc = true) : ∀ x ∈ evsT T i, locB x.loc = true := by
  induction T generalizing i with
  | nil => simp [evsT]
  | cons l T ih =>
    intro x hx
    rw [evsT] at hx
    rcases List.mem_append.1 hx with hx | hx
    · exact evsI_locs (h l (List.mem_cons_self ..)) x hx
    · exact ih (fun m hm => h m (List.mem_cons_of_mem _ hm)) x hx

end Go.Proofs.YtomijmikkbhgmaaGreat
