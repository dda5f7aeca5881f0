import Derived.Test.YtomijmikkbhgmabT22
import Derived.Deep.RegionLaw
namespace Go.Proofs.Ytomijmikkbhgmab
open Go.RowKit

theorem le_fac (m : Nat) : m ≤ fac m := by
  induction m with
  | zero => exact Nat.zero_le _
  | succ m ih =>
    have := fac_pos m
    unfold fac
    have := Nat.mul_le_mul_left (m + 1) (fac_pos m)
    omega

/-- The orders that begin with one of the first k entries. -/
def ordTo (m : Nat) (l : List Int) (k : Nat) : List (List Int) := (List.range k).flatMap fun i => (ordN m (l.eraseIdx i)).map fun r => l.getD i 0 :: r

theorem ordTo_succ (m : Nat) (l : List Int) (k : Nat) : ordTo m l (k + 1) = ordTo m l k ++ (ordN m (l.eraseIdx k)).map fun r => l.getD k 0 :: r := by
  unfold ordTo; rw [List.range_succ, List.flatMap_append]; simp

theorem ordTo_all (m : Nat) (l : List Int) : ordTo m l l.length = ordN (m + 1) l := rfl

theorem ordTo_len (m : Nat) (l : List Int) (h : l.length = m + 1) (k : Nat) (hk : k ≤ l.length) : (ordTo m l k).length = k * fac m := by
  unfold ordTo
  rw [flat_length _ (fac m) _ (fun i hi => ?_), List.length_range]
  have hi' : i < k := by simpa using hi
  rw [List.length_map, ordN_len _ _ (by rw [List.length_eraseIdx, if_pos (by omega)]; omega)]

theorem ordN_mem {m : Nat} {l : List Int} (h : l.length = m) : ∀ y ∈ ordN m l, y.length = m := by
  induction m generalizing l with
  | zero => intro y hy; simp [ordN] at hy; subst hy; rfl
  | succ m ih =>
    intro y hy
    obtain ⟨i, hi, hy⟩ := List.mem_flatMap.1 hy
    obtain ⟨r, hr, rfl⟩ := List.mem_map.1 hy
    have hi' : i < l.length := by simpa using hi
    have := ih (l := l.eraseIdx i) (by rw [List.length_eraseIdx, if_pos hi']; omega) r hr
    simp; omega

end Go.Proofs.Ytomijmikkbhgmab

namespace Go.Proofs.Ytomijmikkbhgmab
open Go.RowKit

theorem Try.infoExec : (Try.prog.info? 96).map (fun i => (i.zero, i.size, i.bytes)) = some (some (.agg #[.slice none 0 0, .slice none 0 0]), 2, 48) := by kernel_rfl

theorem IntAt.sub {w w' : World} {v : Value} {l : List Int} (h : IntAt w v l) (hs : ∀ b : Nat, b < w.heap.size → w'.heap[b]? = w.heap[b]?) : IntAt w' v l := by
  obtain ⟨ao, b, off, cap, hv, ha, hn, hc⟩ := h
  exact ⟨ao, b, off, cap, hv, ha, hn, fun k x hx => cell_heap (hs b (World.block_lt_of_cell? _ _ (hc k x hx))) (hc k x hx)⟩

theorem IntCap.sub {w w' : World} {v : Value} {l : List Int} (h : IntCap w v l) (hs : ∀ b : Nat, b < w.heap.size → w'.heap[b]? = w.heap[b]?) : IntCap w' v l := by
  obtain ⟨ao, b, off, cap, ⟨hv, ha, hn, hc⟩, hl⟩ := h
  exact ⟨ao, b, off, cap, ⟨hv, ha, hn, fun k x hx => cell_heap (hs b (World.block_lt_of_cell? _ _ (hc k x hx))) (hc k x hx)⟩, hl⟩

def XC (w : World) (b off : Nat) (x : Exe) : Prop := ∃ vf vo, w.cell? ⟨b, off, none⟩ = some vf ∧ w.cell? ⟨b, off + 1, none⟩ = some vo ∧ ExeC w vf vo x
def XAt (w : World) (v : Value) (X : List Exe) : Prop := ∃ ao b off cap, SlAt w 2 XC v X ao b off cap

theorem xc_keeps : Keeps XC := fun _ _ _ _ _ hb ⟨vf, vo, h1, h2, h3⟩ => ⟨vf, vo, keep_cell hb h1, keep_cell hb h2, h3.keep hb⟩

/-- An execution that stays while nothing but V's own row turns. -/
def StabX (w : World) (V vf vo : Value) (x : Exe) : Prop :=
  ∀ w' : World, w.heap.size ≤ w'.heap.size → (∀ b : Nat, b < w.heap.size → V.ownBlock ≠ some b → w'.heap[b]? = w.heap[b]?) → ExeC w' vf vo x

structure XL (w : World) (base : Nat) (V : Value) (X : List Exe) (vs : List Value) : Prop where
  own : w.ownsRow base 96 2 V X.length vs
  rows : ∀ (j : Nat) (x : Exe), X[j]? = some x → ∃ vf vo, vs[j * 2]? = some vf ∧ vs[j * 2 + 1]? = some vo ∧ StabX w V vf vo x

theorem XL.nil (w : World) (base : Nat) : XL w base (.slice none 0 0) [] [] := ⟨World.ownsRow_nil _ _ _ _, fun j x h => by simp at h⟩

theorem XL.keep {w w' : World} {base : Nat} {V : Value} {X : List Exe} {vs : List Value} (h : XL w base V X vs) (hb : Below w.heap.size w w') : XL w' base V X vs := by
  refine ⟨own_keep h.own hb, fun j x hx => ?_⟩
  obtain ⟨vf, vo, h1, h2, h3⟩ := h.rows j x hx
  exact ⟨vf, vo, h1, h2, fun w'' hs hk => h3 w'' (Nat.le_trans hb.size hs) (fun b hb1 hb2 => (hk b (Nat.lt_of_lt_of_le hb1 hb.size) hb2).trans (hb.block b hb1))⟩

theorem XL.snoc {w w2 : World} {base : Nat} {V V' : Value} {X : List Exe} {vs : List Value} (h : XL w base V X vs) {x : Exe} {vf vo : Value} (hst : StabX w V vf vo x)
    (hown : w2.ownsRow base 96 2 V' (X.length + 1) (vs ++ [vf, vo])) (hg : w.grownBy w2 V.ownBlock) (hap : ∀ g, V'.ownBlock = some g → V.ownBlock = some g ∨ w.heap.size ≤ g) : XL w2 base V' (X ++ [x]) (vs ++ [vf, vo]) := by
  have hstab : ∀ f o y, StabX w V f o y → StabX w2 V' f o y := by
    intro f o y hy w'' hs hk
    refine hy w'' (Nat.le_trans hg.size hs) (fun b hb1 hb2 => ?_)
    have hne : V'.ownBlock ≠ some b := fun e => by
      rcases hap b e with e' | e'
      · exact hb2 e'
      · omega
    rw [hk b (Nat.lt_of_lt_of_le hb1 hg.size) hne, hg.block b hb1 (fun e => hb2 e.symm)]
  have hlen : vs.length = X.length * 2 := h.own.1
  refine ⟨by simpa using hown, fun j y hy => ?_⟩
  by_cases hj : j < X.length
  · rw [List.getElem?_append_left hj] at hy
    obtain ⟨f, o, h1, h2, h3⟩ := h.rows j y hy
    exact ⟨f, o, by rw [List.getElem?_append_left (by omega)]; exact h1, by rw [List.getElem?_append_left (by omega)]; exact h2, hstab _ _ _ h3⟩
  · have hjL : j = X.length := by
      have := (List.getElem?_eq_some_iff.1 hy).1
      simp at this; omega
    subst hjL
    rw [List.getElem?_append_right (Nat.le_refl _), Nat.sub_self] at hy
    simp at hy
    subst hy
    exact ⟨vf, vo, by rw [List.getElem?_append_right (by omega), hlen, Nat.sub_self]; rfl, by rw [List.getElem?_append_right (by omega), hlen, show X.length * 2 + 1 - X.length * 2 = 1 by omega]; rfl, hstab _ _ _ hst⟩

theorem XL.read {w : World} {base : Nat} {V : Value} {X : List Exe} {vs : List Value} (h : XL w base V X vs) : XAt w V X := by
  rcases h.own.2 with ⟨hv, hn⟩ | ⟨g, cap, cur, hv, hg, hh, _⟩
  · have h0 : X = [] := List.eq_nil_of_length_eq_zero hn
    subst h0
    exact ⟨none, 0, 0, 0, hv, fun h => absurd rfl h, fun _ => ⟨rfl, rfl⟩, fun k x h => by simp at h⟩
  · refine ⟨_, g, 0, cap, hv, fun _ => rfl, fun h => by simp at h, fun k x hk => ?_⟩
    obtain ⟨vf, vo, h1, h2, h3⟩ := h.rows k x hk
    have c1 := h.own.cells (g := g) (by rw [hv]; rfl) (k * 2) vf h1
    have c2 := h.own.cells (g := g) (by rw [hv]; rfl) (k * 2 + 1) vo h2
    rw [Addr.add_lit] at c1 c2
    exact ⟨vf, vo, c1, by rw [Nat.add_assoc]; exact c2, h3 w (Nat.le_refl _) (fun _ _ _ => rfl)⟩

/-- What is made of one element of each list, while the row V lies above all of them. -/
theorem stab_new {w0 wr wa : World} {V : Value} {f a b c : List Int} {uf ua ub uc : Value} (hf : IntAt w0 uf f) (ha : IntCap w0 ua a) (hb : IntCap w0 ub b) (hc : IntCap w0 uc c)
    (hw : Below w0.heap.size w0 wa) {g : Nat} (_hg : wr.heap.size = g) (hgl : g < wa.heap.size) (hV : ∀ k, V.ownBlock = some k → w0.heap.size ≤ k ∧ k < g)
    (c0 : wa.cell? ⟨g, 0, none⟩ = some ua) (c1 : wa.cell? ⟨g, 1, none⟩ = some ub) (c2 : wa.cell? ⟨g, 2, none⟩ = some uc) : StabX wa V uf (.slice (some ⟨g, 0, none⟩) 3 3) ⟨f, [a, b, c]⟩ := by
  intro w' hs hk
  have h0 : ∀ k : Nat, k < w0.heap.size → w'.heap[k]? = w0.heap[k]? := fun k hk2 => (hk k (Nat.lt_of_lt_of_le hk2 hw.size) (fun e => by have := (hV k e).1; omega)).trans (hw.block k hk2)
  have hgk : w'.heap[g]? = wa.heap[g]? := hk g hgl (fun e => by have := (hV g e).2; omega)
  refine ⟨hf.sub h0, some ⟨g, 0, none⟩, g, 0, 3, rfl, fun _ => rfl, fun h => by simp at h, fun k x hx => ?_⟩
  match k, hx with
  | 0, hx => simp at hx; subst hx; exact ⟨ua, cell_heap hgk c0, ha.sub h0⟩
  | 1, hx => simp at hx; subst hx; exact ⟨ub, cell_heap hgk c1, hb.sub h0⟩
  | 2, hx => simp at hx; subst hx; exact ⟨uc, cell_heap hgk c2, hc.sub h0⟩
  | k + 3, hx => simp at hx

/-- The parts of all candidates. -/
def g3 (C : List (List Int)) (f a b : List Int) : List Exe := C.map fun c => ⟨f, [a, b, c]⟩
def g2 (B C : List (List Int)) (f a : List Int) : List Exe := B.flatMap (g3 C f a)
def g1 (A B C : List (List Int)) (f : List Int) : List Exe := A.flatMap (g2 B C f)
theorem exs_g (E : List Evt) : exs E = (allF (rdo E E)).flatMap (g1 (ords E 0) (ords E 1) (ords E 2)) := rfl

theorem flat_drop {α β : Type} {l : List α} {k : Nat} {x : α} (h : l[k]? = some x) (f : α → List β) : (l.drop k).flatMap f = f x ++ (l.drop (k + 1)).flatMap f := by rw [drop_cons h]; rfl

theorem LstAt.nth {w : World} {v : Value} {L : List (List Int)} {ao : Option Addr} {b off cap : Nat} (h : SlAt w 1 LC v L ao b off cap) {w' : World} (hb : Below w.heap.size w w') {k : Nat} {x : List Int} (hx : L[k]? = some x) :
    ao = some ⟨b, off, none⟩ ∧ ∃ ao' cap', w'.cell? ⟨b, off + k, none⟩ = some (.slice ao' x.length cap') ∧ IntAt w (.slice ao' x.length cap') x := by
  obtain ⟨u, h1, h2⟩ := h.hc k x hx
  rw [Nat.mul_one] at h1
  obtain ⟨ao', cap', rfl⟩ := h2.form
  exact ⟨h.ha (ne_nil (List.getElem?_eq_some_iff.1 hx).1), ao', cap', keep_cell hb h1, h2⟩

theorem LstC.nth {w : World} {v : Value} {L : List (List Int)} {ao : Option Addr} {b off cap : Nat} (h : SlAt w 1 LCC v L ao b off cap) {w' : World} (hb : Below w.heap.size w w') {k : Nat} {x : List Int} (hx : L[k]? = some x) :
    ao = some ⟨b, off, none⟩ ∧ ∃ ao' cap', w'.cell? ⟨b, off + k, none⟩ = some (.slice ao' x.length cap') ∧ IntCap w (.slice ao' x.length cap') x := by
  obtain ⟨u, h1, h2⟩ := h.hc k x hx
  rw [Nat.mul_one] at h1
  obtain ⟨ao', cap', rfl⟩ := h2.form
  exact ⟨h.ha (ne_nil (List.getElem?_eq_some_iff.1 hx).1), ao', cap', keep_cell hb h1, h2⟩

theorem quad_step {w7 wr w8 : World} {V V8 : Value} {X : List Exe} {vs : List Value} {f a b c : List Int} {uf ua ub uc : Value} {t1 t2 : TypeId} (h : XL wr w7.heap.size V X vs) (hb : Below w7.heap.size w7 wr)
    (hf : IntAt w7 uf f) (ha : IntCap w7 ua a) (hbb : IntCap w7 ub b) (hc : IntCap w7 uc c)
    (hown : w8.ownsRow w7.heap.size 96 2 V8 (X.length + 1) (vs ++ [uf, .slice (some ⟨wr.heap.size, 0, none⟩) 3 3]))
    (hg : ((wr.alloc (.cells #[ua, ub, uc] t1)).alloc (.cells #[uf, .slice (some ⟨wr.heap.size, 0, none⟩) 3 3] t2)).grownBy w8 V.ownBlock)
    (hap : ∀ g, V8.ownBlock = some g → V.ownBlock = some g ∨ wr.heap.size + 1 + 1 ≤ g) :
    XL w8 w7.heap.size V8 (X ++ [⟨f, [a, b, c]⟩]) (vs ++ [uf, .slice (some ⟨wr.heap.size, 0, none⟩) 3 3]) ∧ Below w7.heap.size w7 w8 := by
  have hsz := hb.size
  have hV : ∀ k, V.ownBlock = some k → w7.heap.size ≤ k ∧ k < wr.heap.size := fun k hk => h.own.lt k hk
  have hwa : Below w7.heap.size w7 ((wr.alloc (.cells #[ua, ub, uc] t1)).alloc (.cells #[uf, .slice (some ⟨wr.heap.size, 0, none⟩) 3 3] t2)) := (hb.alloc hsz _).alloc (by simp; omega) _
  have k := below_alloc (wr.alloc (.cells #[ua, ub, uc] t1)) (.cells #[uf, .slice (some ⟨wr.heap.size, 0, none⟩) 3 3] t2)
  refine ⟨(h.keep (below_two _ _ _)).snoc (stab_new hf ha hbb hc hwa rfl (by simp; omega) hV (keep_cell k (by simp)) (keep_cell k (by simp)) (keep_cell k (by simp))) hown hg (by simpa using hap), ?_⟩
  exact Below.grown hwa hg (by simp; omega) (fun kk e => (hV kk e).1)

end Go.Proofs.Ytomijmikkbhgmab
