import Derived.Test.YtomijmikkbhgmabT3
import Derived.Test.YtomijmikkbhgmabLt
import Derived.Deep.RegionWith
import Derived.Test.YtomijmikkbhgmabLm
import Derived.Test.YtomijmikkbhgmabT2
namespace Go.Proofs.Ytomijmikkbhgmab
open Go.RowKit

theorem Try.infoInts : (Try.prog.info? 39).map (fun i => (i.zero, i.size, i.bytes)) = some (some (.slice none 0 0), 1, 24) := by kernel_rfl

def LC (w : World) (b off : Nat) (x : List Int) : Prop := ∃ u, w.cell? ⟨b, off, none⟩ = some u ∧ IntAt w u x
def LstAt (w : World) (v : Value) (L : List (List Int)) : Prop := ∃ ao b off cap, SlAt w 1 LC v L ao b off cap

theorem lc_keeps : Keeps LC := fun _ _ _ _ _ hb ⟨u, h1, h2⟩ => ⟨u, keep_cell hb h1, h2.keep hb⟩
theorem LstAt.keep {w w' : World} {v : Value} {L : List (List Int)} (h : LstAt w v L) (hb : Below w.heap.size w w') : LstAt w' v L := by
  obtain ⟨ao, b, off, cap, h⟩ := h
  exact ⟨ao, b, off, cap, h.keep lc_keeps hb⟩

structure ExeAt (w : World) (vf vo : Value) (x : Exe) : Prop where
  f : IntAt w vf x.from'
  o : LstAt w vo x.order
theorem ExeAt.keep {w w' : World} {vf vo : Value} {x : Exe} (h : ExeAt w vf vo x) (hb : Below w.heap.size w w') : ExeAt w' vf vo x := ⟨h.f.keep hb, h.o.keep hb⟩

theorem IntAt.form {w : World} {v : Value} {l : List Int} (h : IntAt w v l) : ∃ ao cap, v = .slice ao l.length cap := by
  obtain ⟨ao, b, off, cap, h⟩ := h
  exact ⟨ao, cap, h.hv⟩

theorem IntAt.other {w w' : World} {v : Value} {l : List Int} (h : IntAt w v l) (hs : ∀ b : Nat, v.ownBlock = some b → w'.heap[b]? = w.heap[b]?) : IntAt w' v l := by
  obtain ⟨ao, b, off, cap, hv, ha, hn, hc⟩ := h
  refine ⟨ao, b, off, cap, hv, ha, hn, fun k x hx => ?_⟩
  have hk : k < l.length := (List.getElem?_eq_some_iff.1 hx).1
  exact cell_heap (hs b (by rw [hv, ha (ne_nil hk)]; rfl)) (hc k x hx)

/-- A slice of numbers with room enough. -/
def IntCap (w : World) (v : Value) (l : List Int) : Prop := ∃ ao b off cap, SlAt w 1 IntC v l ao b off cap ∧ l.length ≤ cap
theorem IntNew.cap {B : Nat} {w : World} {v : Value} {l : List Int} (h : IntNew B w v l) : IntCap w v l := by
  obtain ⟨ao, b, off, cap, h1, _, h2⟩ := h
  exact ⟨ao, b, off, cap, h1, h2⟩
theorem IntCap.at' {w : World} {v : Value} {l : List Int} (h : IntCap w v l) : IntAt w v l := by
  obtain ⟨ao, b, off, cap, h1, _⟩ := h
  exact ⟨ao, b, off, cap, h1⟩
theorem IntCap.keep {w w' : World} {v : Value} {l : List Int} (h : IntCap w v l) (hb : Below w.heap.size w w') : IntCap w' v l := by
  obtain ⟨ao, b, off, cap, h1, h2⟩ := h
  exact ⟨ao, b, off, cap, h1.keep intC_keeps hb, h2⟩
theorem intCap_nil (w : World) : IntCap w (.slice none 0 0) [] := ⟨none, 0, 0, 0, ⟨rfl, fun h => absurd rfl h, fun _ => ⟨rfl, rfl⟩, fun k x h => by simp at h⟩, Nat.le_refl _⟩

theorem IntCap.other {w w' : World} {v : Value} {l : List Int} (h : IntCap w v l) (hs : ∀ b : Nat, v.ownBlock = some b → w'.heap[b]? = w.heap[b]?) : IntCap w' v l := by
  obtain ⟨ao, b, off, cap, ⟨hv, ha, hn, hc⟩, hl⟩ := h
  refine ⟨ao, b, off, cap, ⟨hv, ha, hn, fun k x hx => ?_⟩, hl⟩
  have hk : k < l.length := (List.getElem?_eq_some_iff.1 hx).1
  exact cell_heap (hs b (by rw [hv, ha (ne_nil hk)]; rfl)) (hc k x hx)
theorem IntCap.form {w : World} {v : Value} {l : List Int} (h : IntCap w v l) : ∃ ao cap, v = .slice ao l.length cap := h.at'.form

def LCC (w : World) (b off : Nat) (x : List Int) : Prop := ∃ u, w.cell? ⟨b, off, none⟩ = some u ∧ IntCap w u x
theorem lcc_keeps : Keeps LCC := fun _ _ _ _ _ hb ⟨u, h1, h2⟩ => ⟨u, keep_cell hb h1, h2.keep hb⟩

def LstC (w : World) (v : Value) (L : List (List Int)) : Prop := ∃ ao b off cap, SlAt w 1 LCC v L ao b off cap
theorem LstC.keep {w w' : World} {v : Value} {L : List (List Int)} (h : LstC w v L) (hb : Below w.heap.size w w') : LstC w' v L := by
  obtain ⟨ao, b, off, cap, h⟩ := h
  exact ⟨ao, b, off, cap, h.keep lcc_keeps hb⟩

/-- An execution whose lists have room for themselves. -/
structure ExeC (w : World) (vf vo : Value) (x : Exe) : Prop where
  f : IntAt w vf x.from'
  o : ∃ ao b off cap, SlAt w 1 LCC vo x.order ao b off cap
theorem ExeC.keep {w w' : World} {vf vo : Value} {x : Exe} (h : ExeC w vf vo x) (hb : Below w.heap.size w w') : ExeC w' vf vo x := by
  obtain ⟨ao, b, off, cap, hs⟩ := h.o
  exact ⟨h.f.keep hb, ao, b, off, cap, hs.keep lcc_keeps hb⟩
theorem ExeC.at' {w : World} {vf vo : Value} {x : Exe} (h : ExeC w vf vo x) : ExeAt w vf vo x := by
  obtain ⟨ao, b, off, cap, hs⟩ := h.o
  refine ⟨h.f, ao, b, off, cap, hs.hv, hs.ha, hs.hn, fun k l hl => ?_⟩
  obtain ⟨u, h1, h2⟩ := hs.hc k l hl
  exact ⟨u, h1, h2.at'⟩

/-- A slice of slices of the call's own, each of whose rows lies in a block of its own. -/
structure LL (w : World) (base : Nat) (V : Value) (L : List (List Int)) (vs : List Value) : Prop where
  len : vs.length = L.length
  own : w.ownsRow base 39 1 V L.length vs
  rows : ∀ (j : Nat) (x : List Int), L[j]? = some x → ∃ u, vs[j]? = some u ∧ IntCap w u x ∧ ∀ b, u.ownBlock = some b → base ≤ b ∧ b < w.heap.size ∧ V.ownBlock ≠ some b

theorem LL.nil (w : World) (base : Nat) : LL w base (.slice none 0 0) [] [] := ⟨rfl, World.ownsRow_nil _ _ _ _, fun j x h => by simp at h⟩

theorem LL.other {w w' : World} {base : Nat} {V : Value} {L : List (List Int)} {vs : List Value} (h : LL w base V L vs) (hsz : w.heap.size ≤ w'.heap.size) (hs : ∀ b : Nat, base ≤ b → b < w.heap.size → w'.heap[b]? = w.heap[b]?) : LL w' base V L vs := by
  refine ⟨h.len, own_other h.own (fun b hb => hs b (h.own.lt b hb).1 (h.own.lt b hb).2), fun j x hx => ?_⟩
  obtain ⟨u, h1, h2, h3⟩ := h.rows j x hx
  exact ⟨u, h1, h2.other (fun b hb => hs b (h3 b hb).1 (h3 b hb).2.1), fun b hb => ⟨(h3 b hb).1, Nat.lt_of_lt_of_le (h3 b hb).2.1 hsz, (h3 b hb).2.2⟩⟩
theorem LL.keep {w w' : World} {base : Nat} {V : Value} {L : List (List Int)} {vs : List Value} (h : LL w base V L vs) (hb : Below w.heap.size w w') : LL w' base V L vs := h.other hb.size (fun b _ hb2 => hb.block b hb2)
theorem LL.only {B : Nat} {w w' : World} {base : Nat} {V : Value} {L : List (List Int)} {vs : List Value} (h : LL w base V L vs) (ho : Only B w w') (hB : B < base) : LL w' base V L vs := h.other ho.size (fun b h1 h2 => ho.block b h2 (by omega))

theorem LL.snoc {w w2 : World} {base : Nat} {V V' : Value} {L : List (List Int)} {vs : List Value} (h : LL w base V L vs) {x : List Int} {u : Value} {o : Obj} (hu : IntCap w u x)
    (hub : ∀ b, u.ownBlock = some b → base ≤ b ∧ b < w.heap.size ∧ V.ownBlock ≠ some b) (hown : w2.ownsRow base 39 1 V' (L.length + 1) (vs ++ [u])) (hg : (w.alloc o).grownBy w2 V.ownBlock)
    (hap : ∀ g, V'.ownBlock = some g → V.ownBlock = some g ∨ w.heap.size + 1 ≤ g) : LL w2 base V' (L ++ [x]) (vs ++ [u]) := by
  have hsz : w.heap.size + 1 ≤ w2.heap.size := by have := hg.size; simpa using this
  have key : ∀ b : Nat, b < w.heap.size → V.ownBlock ≠ some b → w2.heap[b]? = w.heap[b]? := by
    intro b hb hne
    rw [hg.block b (by simp; omega) (fun e => hne e.symm), Below.heap_alloc _ _ _ hb]
  refine ⟨by simp [h.len], by simpa using hown, fun j y hy => ?_⟩
  by_cases hj : j < L.length
  · rw [List.getElem?_append_left hj] at hy
    obtain ⟨z, h1, h2, h3⟩ := h.rows j y hy
    refine ⟨z, by rw [List.getElem?_append_left (by rw [h.len]; exact hj)]; exact h1, h2.other (fun b hb => key b (h3 b hb).2.1 (h3 b hb).2.2), fun b hb => ?_⟩
    have h4 := (h3 b hb).2.1
    refine ⟨(h3 b hb).1, by omega, fun e => ?_⟩
    rcases hap b e with e' | e'
    · exact (h3 b hb).2.2 e'
    · omega
  · have hjL : j = L.length := by
      have := (List.getElem?_eq_some_iff.1 hy).1
      simp at this; omega
    subst hjL
    rw [List.getElem?_append_right (Nat.le_refl _), Nat.sub_self] at hy
    simp at hy
    subst hy
    refine ⟨u, by rw [List.getElem?_append_right (by rw [h.len]; exact Nat.le_refl _), h.len]; simp, hu.other (fun b hb => key b (hub b hb).2.1 (hub b hb).2.2), fun b hb => ?_⟩
    have h4 := (hub b hb).2.1
    refine ⟨(hub b hb).1, by omega, fun e => ?_⟩
    rcases hap b e with e' | e'
    · exact (hub b hb).2.2 e'
    · omega

/-- A list of lists in memory that is new: from block B on, its rows too. -/
def LstNew (B : Nat) (w : World) (v : Value) (L : List (List Int)) : Prop :=
  ∃ ao b off cap, v = .slice ao L.length cap ∧ (L ≠ [] → ao = some ⟨b, off, none⟩) ∧ (ao = none → L = [] ∧ cap = 0) ∧ B ≤ b ∧
    ∀ (k : Nat) (x : List Int), L[k]? = some x → ∃ u, w.cell? ⟨b, off + k, none⟩ = some u ∧ IntCap w u x ∧ ∀ g, u.ownBlock = some g → B ≤ g ∧ g < w.heap.size

theorem LL.read {w : World} {base : Nat} {V : Value} {L : List (List Int)} {vs : List Value} (h : LL w base V L vs) : LstNew base w V L := by
  rcases h.own.2 with ⟨hv, hn⟩ | ⟨g, cap, cur, hv, hg, hh, _⟩
  · have h0 : L = [] := List.eq_nil_of_length_eq_zero hn
    subst h0
    exact ⟨none, base, 0, 0, hv, fun h => absurd rfl h, fun _ => ⟨rfl, rfl⟩, Nat.le_refl _, fun k x h => by simp at h⟩
  · refine ⟨_, g, 0, cap, hv, fun _ => rfl, fun h => by simp at h, hg, fun k x hk => ?_⟩
    obtain ⟨u, h1, h2, h3⟩ := h.rows k x hk
    have := h.own.cells (g := g) (by rw [hv]; rfl) k u h1
    rw [Addr.add_lit] at this
    exact ⟨u, this, h2, fun b hb => ⟨(h3 b hb).1, (h3 b hb).2.1⟩⟩

theorem LstNew.at' {B : Nat} {w : World} {v : Value} {L : List (List Int)} (h : LstNew B w v L) : LstAt w v L := by
  obtain ⟨ao, b, off, cap, hv, ha, hn, _, hc⟩ := h
  refine ⟨ao, b, off, cap, hv, ha, hn, fun k x hx => ?_⟩
  obtain ⟨u, h1, h2, _⟩ := hc k x hx
  rw [Nat.mul_one]
  exact ⟨u, h1, h2.at'⟩
theorem LstNew.caps {B : Nat} {w : World} {v : Value} {L : List (List Int)} (h : LstNew B w v L) : ∃ ao b off cap, SlAt w 1 LCC v L ao b off cap := by
  obtain ⟨ao, b, off, cap, hv, ha, hn, _, hc⟩ := h
  refine ⟨ao, b, off, cap, hv, ha, hn, fun k x hx => ?_⟩
  obtain ⟨u, h1, h2, _⟩ := hc k x hx
  rw [Nat.mul_one]
  exact ⟨u, h1, h2⟩

/-- What is left of a slice behind its first k entries. -/
theorem intCap_drop {w : World} {l : List Int} {b off cap : Nat} (h : SlAt w 1 IntC (.slice (some ⟨b, off, none⟩) l.length cap) l (some ⟨b, off, none⟩) b off cap) (hc : l.length ≤ cap) {k : Nat} (hk : k ≤ l.length) :
    IntCap w (.slice (if cap = k then (some ⟨b, off, none⟩ : Option Addr) else some ⟨b, off + k, none⟩) (l.length - k) (cap - k)) (l.drop k) := by
  by_cases e : cap = k
  · rw [if_pos e]
    have hd : l.drop k = [] := List.drop_eq_nil_of_le (by omega)
    rw [hd]
    exact ⟨_, b, off, _, ⟨by rw [show l.length - k = 0 by omega]; rfl, fun h => absurd rfl h, fun h => by simp at h, fun k x h => by simp at h⟩, Nat.zero_le _⟩
  · rw [if_neg e]
    refine ⟨_, b, off + k, _, ⟨by rw [List.length_drop], fun _ => rfl, fun h => by simp at h, fun j x hx => ?_⟩, by rw [List.length_drop]; omega⟩
    rw [List.getElem?_drop] at hx
    have := h.hc (k + j) x hx
    unfold IntC at this ⊢
    rw [Nat.mul_one] at this ⊢
    rw [Nat.add_assoc]; exact this

end Go.Proofs.Ytomijmikkbhgmab

namespace Go.Proofs.Ytomijmikkbhgmab
open Go.RowKit

end Go.Proofs.Ytomijmikkbhgmab

namespace Go.Proofs.Ytomijmikkbhgmab
open Go.RowKit

/-- The reads: their numbers, and they themselves. -/
def rdsX : List Evt → Nat → List (Nat × Evt)
  | [], _ => []
  | x :: E, i => if x.kind == 0 then (i, x) :: rdsX E (i + 1) else rdsX E (i + 1)
def rdsI (E : List Evt) (i : Nat) : List Int := (rdsX E i).map fun p => (p.1 : Int)

theorem rdsX_hit {x : Evt} (h : (x.kind == 0) = true) (E : List Evt) (i : Nat) : rdsX (x :: E) i = (i, x) :: rdsX E (i + 1) := by rw [rdsX, if_pos h]
theorem rdsX_mis {x : Evt} (h : (x.kind == 0) = false) (E : List Evt) (i : Nat) : rdsX (x :: E) i = rdsX E (i + 1) := by rw [rdsX, if_neg (by simp [h])]

theorem rdo_eq (E R : List Evt) (i : Nat) : rdo E R = (rdsX R i).map fun p => -1 :: wrs E 0 p.2.loc := by
  induction R generalizing i with
  | nil => rfl
  | cons x R ih =>
    cases h : x.kind == 0
    · rw [rdsX_mis h, rdo, if_neg (by simp [h])]; exact ih (i + 1)
    · rw [rdsX_hit h, rdo, if_pos h, List.map_cons, ih (i + 1)]

theorem rdsX_get {R : List Evt} {i : Nat} {p : Nat × Evt} (h : p ∈ rdsX R i) : i ≤ p.1 ∧ R[p.1 - i]? = some p.2 := by
  induction R generalizing i with
  | nil => simp [rdsX] at h
  | cons x R ih =>
    have key : p ∈ rdsX R (i + 1) → i ≤ p.1 ∧ (x :: R)[p.1 - i]? = some p.2 := by
      intro hp
      obtain ⟨h1, h2⟩ := ih hp
      refine ⟨by omega, ?_⟩
      rw [show p.1 - i = (p.1 - (i + 1)) + 1 by omega]
      simpa using h2
    cases hk : x.kind == 0
    · rw [rdsX_mis hk] at h; exact key h
    · rw [rdsX_hit hk] at h
      rcases List.mem_cons.1 h with rfl | h
      · simp
      · exact key h

theorem rdsX_len (R : List Evt) (i : Nat) : (rdsX R i).length ≤ R.length := by
  induction R generalizing i with
  | nil => simp [rdsX]
  | cons x R ih => have := ih (i + 1); unfold rdsX; split <;> simp <;> omega

theorem int_cells {w : World} {v : Value} {l : List Int} {ao : Option Addr} {b off cap : Nat} (h : SlAt w 1 IntC v l ao b off cap) : ∀ ad, ao = some ad → ∀ j u, (l.map (Value.int .i64))[j]? = some u → w.cell? (ad.add j) = some u := by
  intro ad had j u hj
  rw [List.getElem?_map] at hj
  obtain ⟨x, hx, rfl⟩ := Option.map_eq_some_iff.1 hj
  have hk : j < l.length := (List.getElem?_eq_some_iff.1 hx).1
  rw [h.ha (ne_nil hk)] at had
  cases had
  have hC := h.hc j x hx
  unfold IntC at hC
  rw [Nat.mul_one] at hC
  rw [Addr.add_lit]; exact hC

end Go.Proofs.Ytomijmikkbhgmab

namespace Go.Proofs.Ytomijmikkbhgmab
open Go.RowKit

theorem cntO_cons (op : Int) (l : List Ins) (T : List (List Ins)) : cntO op (l :: T) = (l.filter fun x => x.op == op).length + cntO op T := rfl

set_option maxHeartbeats 2000000 in
theorem count_any (T : List (List Ins)) (fa : Bool) (c : List Atm) (v vt vc : Value) (w : World) (h : TestAt w v T fa c vt vc) (h2 : T.length ≤ 4) (hL : lensB T = true) (op : Int) :
    Calls Try.prog 68 #[v, .int .i64 op] w fun e w' => e = .returned (.int .i64 (cntO op T : Nat)) ∧ Below w.heap.size w w' := by
  obtain ⟨hv, ht, ⟨hc0, ao', b', off', cap', hcv, _, _, _⟩⟩ := h
  obtain ⟨ht0, ao, b, off, cap, htv, hta, _, htc⟩ := ht.opened
  subst hv htv hcv
  generalize hN : cntO op T = N
  have HN0 : Hid (cntO op T = N) := hN
  clear hN
  go_enter Try.func68, Try.ntmps68
  go_wp2_with fail
  have hbox := boxed w (.slice ao T.length cap) (.slice ao' c.length cap') fa 25
  generalize w.alloc (.cells #[.slice ao T.length cap, .bool fa, .slice ao' c.length cap'] 25) = W at hbox ⊢
  obtain ⟨hbW, _, g0, _, _⟩ := hbox
  go_loop [5, 6] (fun u i => ∃ (k n : Nat), k ≤ T.length ∧ i = .int .i64 k ∧ u = .int .i64 n ∧ n ≤ 12 * k ∧ Hid (N = n + cntO op (T.drop k))) (fun _ i => T.length - (intOf i).toNat)
  case atStart => exact ⟨0, 0, Nat.zero_le _, rfl, rfl, Nat.le_refl _, by rw [List.drop_zero, HN0.out]; exact (Nat.zero_add _).symm⟩
  case round =>
    obtain ⟨k, n, hk, rfl, rfl, hnk, hn⟩ := hrel
    by_cases hlt : k < T.length
    · obtain ⟨l, hx⟩ := get_of_lt hlt
      obtain ⟨hbl, ao2, cap2, c0, hil⟩ := htc k l hx
      obtain rfl := hta (ne_nil hlt)
      have hl12 := lensB_get hL hx
      have HN : Hid (N = n + ((l.filter fun x => x.op == op).length + cntO op (T.drop (k + 1)))) := hn.out.trans (by rw [drop_cons hx]; rfl)
      have c1 := keep_cell hbW c0
      have HIL : Hid (InsAt W (.slice ao2 l.length cap2) l) := hil.keep hbW
      have hbl2 := World.block_lt_of_cell? _ _ c1
      clear hx hn hil ht c0 hL htc hta HN0
      generalize hR : cntO op (T.drop (k + 1)) = R at HN
      have HR : Hid (cntO op (T.drop (k + 1)) = R) := hR
      clear hR
      go_wp2_with fail
      go_loop [5, 7] (fun u i => ∃ (j n : Nat), j ≤ l.length ∧ i = .int .i64 j ∧ u = .int .i64 n ∧ n ≤ 12 * k + j ∧ Hid (N = n + (((l.drop j).filter fun x => x.op == op).length + R))) (fun _ i => l.length - (intOf i).toNat)
      case atStart => exact ⟨0, n, Nat.zero_le _, rfl, rfl, by omega, HN.out⟩
      case round =>
        clear HN hnk
        obtain ⟨j, n2, hj, rfl, rfl, hnj, hn⟩ := hrel
        by_cases hlt2 : j < l.length
        · obtain ⟨x, hx⟩ := get_of_lt hlt2
          obtain ⟨_, ao3, b3, off3, cap3, hv3, ha3, _, hc3⟩ := HIL.out
          have hC := hc3 j x hx
          have hbl3 := hC.lt
          have d0 := hC.c0
          rw [drop_cons hx] at hn
          have HN2 : Hid (N = n2 + (((x :: l.drop (j + 1)).filter fun x => x.op == op).length + R)) := hn
          simp only [Value.slice.injEq] at hv3
          obtain ⟨e1, _, e3⟩ := hv3
          rw [ha3 (ne_nil hlt2)] at e1
          subst e1
          clear hn hc3 hC ha3 e3 hx
          cases hop : x.op == op
          · have HM : Hid (N = n2 + (((l.drop (j + 1)).filter fun x => x.op == op).length + R)) := HN2.out.trans (by rw [List.filter_cons, hop]; rfl)
            go_wp2_with fail
            go_round
            case measure => simp [intOf]; omega
            case rel => exact ⟨j + 1, n2, by omega, by go_num, rfl, by omega, HM.out⟩
          · have HM : Hid (N = (n2 + 1) + (((l.drop (j + 1)).filter fun x => x.op == op).length + R)) := HN2.out.trans (by rw [List.filter_cons, hop]; simp; omega)
            go_wp2_with fail
            go_round
            case measure => simp [intOf]; omega
            case rel => exact ⟨j + 1, n2 + 1, by omega, by go_num, by go_num, by omega, HM.out⟩
        · have HM : Hid (N = n2 + cntO op (T.drop (k + 1))) := hn.out.trans (by rw [drop_nil hlt2, HR.out]; simp)
          clear hn
          go_wp2_with fail
          go_round
          case measure => simp [intOf]; omega
          case rel => exact ⟨k + 1, n2, by omega, by go_num, rfl, by omega, HM.out⟩
    · have HM : Hid (N = n) := hn.out.trans (by rw [drop_nil hlt]; rfl)
      clear hn htc hta ht
      go_wp2_with fail
      go_ret
      exact ⟨by rw [HM.out]; rfl, hbW⟩

end Go.Proofs.Ytomijmikkbhgmab

namespace Go.Proofs.Ytomijmikkbhgmab
open Go.RowKit

theorem ret_cap {S n : Nat} (h : cap2 S = n) : Ending.returned (.int .i64 (n : Nat)) = .returned (.int .i64 (cap2 S : Nat)) := by rw [h]

set_option maxHeartbeats 2000000 in
theorem size_any (E : List Evt) (hE : E.length ≤ 96) (v : Value) (w : World) (h : Ev9At w v E) :
    Calls Try.prog 69 #[v] w fun e w' => e = .returned (.int .i64 (cap2 (sizeN E) : Nat)) ∧ Below w.heap.size w w' := by
  have HE : Hid (Ev9At w v E) := h
  obtain ⟨ao, b, off, cap, hv, ha, _, hc⟩ := h
  subst hv
  generalize hS : sizeN E = S
  have HS : Hid (sizeN E = S) := hS
  clear hS
  go_enter Try.func69, Try.ntmps69
  go_wp2_with fail
  go_loopw [3, 4] (fun u i wr => ∃ (k n : Nat), k ≤ E.length ∧ i = .int .i64 k ∧ u = .int .i64 n ∧ n ≤ 2000 ∧ Hid (S = n * (prodR E (E.drop k) * facL E 0)) ∧ Below w.heap.size w wr) (fun _ i _ => E.length - (intOf i).toNat)
  case atStart => exact ⟨0, 1, Nat.zero_le _, rfl, rfl, by omega, by rw [Nat.one_mul, List.drop_zero, ← sizeN_eq, HS.out]; exact rfl, Below.refl _ _⟩
  case round =>
    obtain ⟨k, n, hk, rfl, rfl, hn0, hn, hb⟩ := hrel
    by_cases hlt : k < E.length
    · obtain ⟨x, hx⟩ := get_of_lt hlt
      have hC := hc k x hx
      have hbl := hC.lt
      obtain rfl := ha (ne_nil hlt)
      obtain ⟨_, _, c2, c3, _, _, _, _, _⟩ := ev9C_keeps _ _ _ _ _ hb hC
      have HN : Hid (S = n * (prodR E (x :: E.drop (k + 1)) * facL E 0)) := by rw [← drop_cons hx]; exact hn
      clear hn hC ha hx
      have HC : Hid (∀ k x, E[k]? = some x → Ev9C w b (off + k * 9) x) := hc
      clear hc
      cases h1 : x.kind == 0
      · have HM : Hid (S = n * (prodR E (E.drop (k + 1)) * facL E 0)) := HN.out.trans (by rw [prodR_not h1])
        go_wp2_with fail
        go_roundw
        case measure => simp [intOf]; omega
        case rel => exact ⟨k + 1, n, by omega, by go_num, rfl, hn0, HM.out, hb⟩
      · have hwl := wrs_len E 0 x.loc
        have HM0 : Hid (S = n * ((1 + (wrs E 0 x.loc).length) * (prodR E (E.drop (k + 1)) * facL E 0))) := HN.out.trans (by rw [prodR_read h1, Nat.mul_assoc])
        generalize hW : wrs E 0 x.loc = W at hwl HM0
        have HW : Hid (wrs E 0 x.loc = W) := hW
        clear hW
        have hml := @mul_bd1 n W.length 2000 96 hn0 (by omega)
        obtain ⟨hm1, hm2⟩ := hml
        have HP : Hid (1 ≤ prodR E (E.drop (k + 1)) * facL E 0) := Nat.mul_le_mul (prodR_pos _ _) (facL_pos _ _)
        by_cases hbig : 2000 < (n : Int) * (1 + (W.length : Int))
        · have HR : Hid (cap2 S = 2001) := by
            rw [HM0.out, ← Nat.mul_assoc]
            refine cap2_big ?_ HP.out
            have e : ((n * (1 + W.length) : Nat) : Int) = (n : Int) * (1 + (W.length : Int)) := by simp
            omega
          go_wp2_with (go_at_call 82; refine (writesR_any E hE x.loc _ _ (HE.out.keep hb)).mono ?_; rw [HW.out]; rintro e w3 ⟨u2, rfl, hu2, hb3⟩; obtain ⟨ao4, b4, off4, cap4, ⟨hv4, ha4, _, hc4⟩, hb4⟩ := hu2; subst hv4)
          go_ret
          exact ⟨ret_cap HR.out, below_more hb hb3⟩
        · have HM : Hid (S = (n * (1 + W.length)) * (prodR E (E.drop (k + 1)) * facL E 0)) := HM0.out.trans (by rw [Nat.mul_assoc])
          go_wp2_with (go_at_call 82; refine (writesR_any E hE x.loc _ _ (HE.out.keep hb)).mono ?_; rw [HW.out]; rintro e w3 ⟨u2, rfl, hu2, hb3⟩; obtain ⟨ao4, b4, off4, cap4, ⟨hv4, ha4, _, hc4⟩, hb4⟩ := hu2; subst hv4)
          go_roundw
          case measure => simp [intOf]; omega
          case rel => exact ⟨k + 1, n * (1 + W.length), by omega, by go_num, by simp, by
              have e : ((n * (1 + W.length) : Nat) : Int) = (n : Int) * (1 + (W.length : Int)) := by simp
              omega, HM.out, below_more hb hb3⟩
    · have HM : Hid (S = n * facL E 0) := hn.out.trans (by rw [drop_nil hlt]; simp [prodR])
      clear hn hc ha
      go_wp2_with fail
      go_loopw [3, 6] (fun u i wr => ∃ (j n : Nat), j ≤ 3 ∧ i = .int .i64 j ∧ u = .int .i64 n ∧ n ≤ 2000 ∧ Hid (S = n * facL E j) ∧ Below w.heap.size w wr) (fun _ i _ => 3 - (intOf i).toNat)
      case atStart => exact ⟨0, n, by omega, rfl, rfl, hn0, HM.out, hb⟩
      case round =>
        clear HM hb hn0
        obtain ⟨j, n2, hj, rfl, rfl, hn0, hn, hb⟩ := hrel
        by_cases hlt2 : j < 3
        · have HM : Hid (S = n2 * (fac (wrs E 0 (j : Int)).length * facL E (j + 1))) := hn.out.trans (by rw [facL_step E j hlt2])
          have hwl := wrs_len E 0 (j : Int)
          generalize hW : wrs E 0 (j : Int) = W at hwl HM
          have HW : Hid (wrs E 0 (j : Int) = W) := hW
          clear hW hn
          go_wp2_with (go_at_call 82; refine (writesR_any E hE j _ _ (HE.out.keep hb)).mono ?_; rw [HW.out]; rintro e w3 ⟨u2, rfl, hu2, hb3⟩; obtain ⟨ao4, b4, off4, cap4, ⟨hv4, ha4, _, hc4⟩, hb4⟩ := hu2; subst hv4)
          have hb5 := below_more hb hb3
          clear hb3 hc4 ha4
          go_loop [3, 8] (fun u i => ∃ (k n : Nat), 2 ≤ k ∧ k ≤ 98 ∧ i = .int .i64 k ∧ u = .int .i64 n ∧ n ≤ 2000 ∧ Hid (S = n * (prodUp k (W.length + 1 - k) * facL E (j + 1)))) (fun _ i => 98 - (intOf i).toNat)
          case atStart => exact ⟨2, n2, by omega, by omega, rfl, rfl, hn0, HM.out.trans (by rw [prodUp_two])⟩
          case round =>
            clear HM hn0
            obtain ⟨k2, n3, hk2, hk98, rfl, rfl, hn0, hn⟩ := hrel
            by_cases hlt3 : k2 ≤ W.length
            · have HM0 : Hid (S = (n3 * k2) * (prodUp (k2 + 1) (W.length + 1 - (k2 + 1)) * facL E (j + 1))) := hn.out.trans (by rw [prodUp_step hlt3, Nat.mul_assoc, Nat.mul_assoc])
              obtain ⟨hm1, hm2⟩ := @mul_bd n3 k2 2000 98 hn0 (by omega)
              have HP : Hid (1 ≤ prodUp (k2 + 1) (W.length + 1 - (k2 + 1)) * facL E (j + 1)) := Nat.mul_le_mul (prodUp_pos _ _ (by omega)) (facL_pos _ _)
              have ec : ((n3 * k2 : Nat) : Int) = (n3 : Int) * (k2 : Int) := by simp
              have EC : Hid (((n3 * k2 : Nat) : Int) = (n3 : Int) * (k2 : Int)) := ec
              clear hn ec
              by_cases hbig : 2000 < (n3 : Int) * (k2 : Int)
              · have HR : Hid (cap2 S = 2001) := by
                  rw [HM0.out]
                  refine cap2_big ?_ HP.out
                  have e := EC.out
                  omega
                go_wp2_with fail
                go_ret
                exact ⟨ret_cap HR.out, hb5⟩
              · go_wp2_with fail
                go_round
                case measure => simp [intOf]; omega
                case rel => exact ⟨k2 + 1, n3 * k2, by omega, by omega, by go_num, by simp, by have e := EC.out; omega, HM0.out⟩
            · have HM1 : Hid (S = n3 * facL E (j + 1)) := hn.out.trans (by rw [prodUp_done hlt3, Nat.one_mul])
              clear hn
              go_wp2_with fail
              go_roundw
              case measure => simp [intOf]; omega
              case rel => exact ⟨j + 1, n3, by omega, by go_num, rfl, hn0, HM1.out, hb5⟩
        · have e3 : j = 3 := by omega
          subst e3
          have HR : Hid (cap2 S = n2) := by rw [hn.out, facL_three, Nat.mul_one]; exact cap2_of_le (by omega)
          clear hn
          go_wp2_with fail
          go_ret
          exact ⟨ret_cap HR.out, hb⟩

end Go.Proofs.Ytomijmikkbhgmab
