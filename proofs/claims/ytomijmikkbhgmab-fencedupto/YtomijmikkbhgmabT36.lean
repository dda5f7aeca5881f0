import Derived.Test.YtomijmikkbhgmabT35
import Derived.Test.YtomijmikkbhgmabT34
import Derived.Test.YtomijmikkbhgmabT25
import Derived.Test.YtomijmikkbhgmabT28
import Derived.Test.YtomijmikkbhgmabT32
namespace Go.Proofs.Ytomijmikkbhgmab
open Go.RowKit

theorem ty_int_ints : (3 : TypeId) ≠ 39 := by decide
theorem ty_ints_rows : (39 : TypeId) ≠ 62 := by decide
theorem ty_int_rows : (3 : TypeId) ≠ 62 := by decide

/-- A moment, or an end of one, in a block of numbers. -/
def MoAt (w : World) (u : Value) (l : List Int) : Prop := ∃ g off cap cur, (u = .slice (some ⟨g, off, none⟩) l.length cap ∧ l.length ≤ cap) ∧ w.heap[g]? = some (.cells cur 3 (0, 0)) ∧ ∀ k x, l[k]? = some x → cur[off + k]? = some (.int .i64 x)

theorem MoAt.at' {w : World} {u : Value} {l : List Int} (h : MoAt w u l) : IntAt w u l := by
  obtain ⟨g, off, cap, cur, ⟨hu, _⟩, hh, hc⟩ := h
  refine ⟨_, g, off, cap, hu, fun _ => rfl, fun h => (by cases h), fun k x hk => ?_⟩
  unfold IntC
  rw [Nat.mul_one, cell_of_row _ _ (off + k) cur 3 (0, 0) hh]
  exact hc k x hk
theorem MoAt.other {w w' : World} {u : Value} {l : List Int} (h : MoAt w u l) (hs : ∀ (b : Nat) (cur : Array Value), w.heap[b]? = some (.cells cur 3 (0, 0)) → w'.heap[b]? = w.heap[b]?) : MoAt w' u l := by
  obtain ⟨g, off, cap, cur, hu, hh, hc⟩ := h
  exact ⟨g, off, cap, cur, hu, (hs g cur hh).trans hh, hc⟩
theorem heap_lt {w : World} {b : Nat} {o : Obj} (h : w.heap[b]? = some o) : b < w.heap.size := (Array.getElem?_eq_some_iff.1 h).1
theorem MoAt.keep {w w' : World} {u : Value} {l : List Int} (h : MoAt w u l) (hb : Below w.heap.size w w') : MoAt w' u l := h.other fun b _ hh => hb.block b (heap_lt hh)
theorem MoAt.form {w : World} {u : Value} {l : List Int} (h : MoAt w u l) : ∃ g off cap, u = .slice (some ⟨g, off, none⟩) l.length cap ∧ l.length ≤ cap := by
  obtain ⟨g, off, cap, cur, hu, _⟩ := h
  exact ⟨g, off, cap, hu⟩
theorem OwnI.mo {base : Nat} {w : World} {u : Value} {l : List Int} (h : OwnI base w u l) (hl : 0 < l.length) : MoAt w u l := by
  obtain ⟨_, h⟩ := h
  rcases h with ⟨_, hn⟩ | ⟨g, cap, cur, hv, hg, hh, hnc, hcm, hcs, htk⟩
  · omega
  · refine ⟨g, 0, cap, cur, ⟨hv, hnc⟩, hh, fun k x hk => ?_⟩
    have hkl := (List.getElem?_eq_some_iff.1 hk).1
    have h1 : (cur.toList.take (l.length * 1))[k]? = (intV l)[k]? := by rw [htk]
    rw [List.getElem?_take_of_lt (by omega)] at h1
    rw [Nat.zero_add, ← Array.getElem?_toList, h1]
    unfold intV
    rw [List.getElem?_map, hk]
    rfl
/-- What stands behind the first so many. -/
theorem MoAt.cut {w : World} {g off cap d : Nat} {l : List Int} (h : MoAt w (.slice (some ⟨g, off, none⟩) l.length cap) l) (hd : d ≤ l.length) : MoAt w (.slice (some ⟨g, off + d, none⟩) (l.length - d) (cap - d)) (l.drop d) := by
  obtain ⟨g', off', cap', cur, ⟨hu, hle⟩, hh, hc⟩ := h
  cases hu
  refine ⟨g, off + d, cap - d, cur, ⟨by rw [List.length_drop], by rw [List.length_drop]; omega⟩, hh, fun k x hk => ?_⟩
  rw [List.getElem?_drop] at hk
  rw [Nat.add_assoc]
  exact hc _ x hk

/-- Rows of moments, each of the call's own, no two in one block. -/
structure RowsT (base : Nat) (w : World) (n : Nat) (V : Nat → Value) (L : Nat → List (List Int)) : Prop where
  row : ∀ i, i < n → ∃ us, w.ownsRow base 39 1 (V i) (L i).length us ∧ ∀ (k : Nat) (u : Value) (l : List Int), us[k]? = some u → (L i)[k]? = some l → MoAt w u l
  apart : ∀ i j b, i < n → j < n → i ≠ j → (V i).ownBlock = some b → (V j).ownBlock ≠ some b

theorem own_type {w : World} {base : Nat} {e : TypeId} {s : Nat} {v : Value} {n : Nat} {xs : List Value} (h : w.ownsRow base e s v n xs) {b : Nat} (hb : v.ownBlock = some b) : ∃ cur, w.heap[b]? = some (.cells cur e (0, 0)) := by
  rcases h.2 with ⟨rfl, _⟩ | ⟨g, cap, cur, rfl, _, hh, _⟩
  · cases hb
  · cases hb; exact ⟨cur, hh⟩

theorem RowsT.other {base : Nat} {w w' : World} {n : Nat} {V : Nat → Value} {L : Nat → List (List Int)} (h : RowsT base w n V L) (hs : ∀ (b : Nat) (cur : Array Value) (t : TypeId), (t = 3 ∨ t = 39) → w.heap[b]? = some (.cells cur t (0, 0)) → w'.heap[b]? = w.heap[b]?) : RowsT base w' n V L := by
  refine ⟨fun i hi => ?_, h.apart⟩
  obtain ⟨us, h1, h2⟩ := h.row i hi
  refine ⟨us, own_other h1 fun b hb => ?_, fun k u l hu hl => (h2 k u l hu hl).other fun b cur hh => hs b cur _ (.inl rfl) hh⟩
  obtain ⟨cur, hh⟩ := own_type h1 hb
  exact hs b cur _ (.inr rfl) hh
theorem RowsT.keep {base : Nat} {w w' : World} {n : Nat} {V : Nat → Value} {L : Nat → List (List Int)} (h : RowsT base w n V L) (hb : Below w.heap.size w w') : RowsT base w' n V L := h.other fun b _ _ _ hh => hb.block b (heap_lt hh)

theorem RowsT.at' {base : Nat} {w : World} {n : Nat} {V : Nat → Value} {L : Nat → List (List Int)} (h : RowsT base w n V L) {i : Nat} (hi : i < n) : LstAt w (V i) (L i) := by
  obtain ⟨us, h1, h2⟩ := h.row i hi
  rcases h1.2 with ⟨hv, hn⟩ | ⟨g, cap, cur, hv, hg, hh, _⟩
  · have h0 : L i = [] := List.eq_nil_of_length_eq_zero hn
    rw [h0]
    exact ⟨none, 0, 0, 0, hv, fun h => absurd rfl h, fun _ => ⟨rfl, rfl⟩, fun k x h => by simp at h⟩
  · refine ⟨_, g, 0, cap, hv, fun _ => rfl, fun h => (by simp at h), fun k x hk => ?_⟩
    have hul : us.length = (L i).length := by have := h1.1; omega
    obtain ⟨u, hu⟩ := get_of_lt (l := us) (k := k) (by have := (List.getElem?_eq_some_iff.1 hk).1; omega)
    refine ⟨u, ?_, (h2 k u x hu hk).at'⟩
    have := h1.cells (g := g) (by rw [hv]; rfl) k u hu
    rw [Addr.add_lit] at this
    rw [Nat.mul_one]
    exact this

/-- One moment more behind a row. -/
theorem RowsT.app {base : Nat} {w w2 : World} {n : Nat} {V : Nat → Value} {L : Nat → List (List Int)} (h : RowsT base w n V L) {i : Nat} (hi : i < n) {us : List Value} (h1 : w.ownsRow base 39 1 (V i) (L i).length us) (h2 : ∀ (k : Nat) (u : Value) (l : List Int), us[k]? = some u → (L i)[k]? = some l → MoAt w u l)
    {u v' : Value} {l : List Int} {o : Obj} (hu : MoAt w u l) (hown : w2.ownsRow base 39 1 v' ((L i).length + 1) (us ++ [u])) (hg : (w.alloc o).grownBy w2 (V i).ownBlock) (hap : ∀ g, v'.ownBlock = some g → (V i).ownBlock = some g ∨ w.heap.size + 1 ≤ g) :
    RowsT base w2 n (upd V i v') (upd L i (L i ++ [l])) ∧ (∀ (b : Nat) (cur : Array Value) (t : TypeId), t ≠ 39 → w.heap[b]? = some (.cells cur t (0, 0)) → w2.heap[b]? = w.heap[b]?) := by
  have key : ∀ b : Nat, b < w.heap.size → (V i).ownBlock ≠ some b → w2.heap[b]? = w.heap[b]? := by
    intro b hb hne
    rw [hg.block b (by simp; omega) (fun e => hne e.symm), Below.heap_alloc _ _ _ hb]
  have kt : ∀ (b : Nat) (cur : Array Value) (t : TypeId), t ≠ 39 → w.heap[b]? = some (.cells cur t (0, 0)) → w2.heap[b]? = w.heap[b]? := fun b cur t ht hh => key b (heap_lt hh) fun e => by
    obtain ⟨cur', hh'⟩ := own_type h1 e
    rw [hh] at hh'
    cases hh'
    exact ht rfl
  have ki : ∀ (b : Nat) (cur : Array Value), w.heap[b]? = some (.cells cur 3 (0, 0)) → w2.heap[b]? = w.heap[b]? := fun b cur hh => kt b cur _ ty_int_ints hh
  refine ⟨⟨fun j hj => ?_, fun j k b hj hk hjk hb => ?_⟩, kt⟩
  · by_cases hji : j = i
    · subst hji
      rw [upd_self, upd_self]
      refine ⟨us ++ [u], by simpa using hown, fun k z y hz hy => ?_⟩
      have hul : us.length = (L j).length := by have := h1.1; omega
      by_cases hk : k < us.length
      · rw [List.getElem?_append_left hk] at hz
        rw [List.getElem?_append_left (by omega)] at hy
        exact (h2 k z y hz hy).other ki
      · have hkl : k = us.length := by
          have := (List.getElem?_eq_some_iff.1 hz).1
          simp at this; omega
        subst hkl
        rw [List.getElem?_append_right (Nat.le_refl _), Nat.sub_self] at hz
        rw [hul, List.getElem?_append_right (Nat.le_refl _), Nat.sub_self] at hy
        simp at hz hy
        subst hz hy
        exact hu.other ki
    · rw [upd_ne _ _ hji, upd_ne _ _ hji]
      obtain ⟨us', q1, q2⟩ := h.row j hj
      exact ⟨us', own_other q1 fun b hb => key b (q1.lt b hb).2 (h.apart j i b hj hi hji hb), fun k z y hz hy => (q2 k z y hz hy).other ki⟩
  · by_cases hji : j = i
    · subst hji
      rw [upd_self] at hb
      rw [upd_ne _ _ (fun e => hjk e.symm)]
      rcases hap b hb with q | q
      · exact h.apart j k b hj hk hjk q
      · intro e
        obtain ⟨us', q1, _⟩ := h.row k hk
        have := (q1.lt b e).2
        omega
    · rw [upd_ne _ _ hji] at hb
      by_cases hki : k = i
      · subst hki
        rw [upd_self]
        intro e
        rcases hap b e with q | q
        · exact h.apart j k b hj hk hjk hb q
        · obtain ⟨us', q1, _⟩ := h.row j hj
          have := (q1.lt b hb).2
          omega
      · rw [upd_ne _ _ hki]
        exact h.apart j k b hj hk hjk hb

/-- The table of rows. -/
def TabAt (base : Nat) (w : World) (tb P : Nat) (V : Nat → Value) : Prop := w.ownsRow base 62 1 (.slice (some ⟨tb, 0, none⟩) P P) P ((List.range P).map fun p => V (p + 2))

theorem TabAt.other {base : Nat} {w w' : World} {tb P : Nat} {V : Nat → Value} (h : TabAt base w tb P V) (hs : ∀ (b : Nat) (cur : Array Value) (t : TypeId), t ≠ 39 → w.heap[b]? = some (.cells cur t (0, 0)) → w'.heap[b]? = w.heap[b]?) : TabAt base w' tb P V := own_other h fun b hb => by
  obtain ⟨cur, hh⟩ := own_type h hb
  exact hs b cur _ (fun e => ty_ints_rows e.symm) hh
theorem TabAt.keep {base : Nat} {w w' : World} {tb P : Nat} {V : Nat → Value} (h : TabAt base w tb P V) (hb : Below w.heap.size w w') : TabAt base w' tb P V := own_keep h hb
theorem TabAt.cell {base : Nat} {w : World} {tb P : Nat} {V : Nat → Value} (h : TabAt base w tb P V) {p : Nat} (hp : p < P) : w.cell? ⟨tb, p, none⟩ = some (V (p + 2)) ∧ w.frozen? ⟨tb, p, none⟩ = false := by
  refine ⟨?_, World.ownsRow.frozenAt h p⟩
  rw [World.ownsRow.cellAt h p (by omega), List.getElem?_map, List.getElem?_range hp]
  rfl
theorem TabAt.low {base : Nat} {w : World} {tb P : Nat} {V : Nat → Value} (h : TabAt base w tb P V) (_hp : 0 < P) : base ≤ tb := (World.ownsRow.lt h tb rfl).1
theorem TabAt.congr {base : Nat} {w : World} {tb P : Nat} {V V' : Nat → Value} (h : TabAt base w tb P V) (hV : ∀ p, p < P → V (p + 2) = V' (p + 2)) : TabAt base w tb P V' := by
  unfold TabAt at *
  rw [show ((List.range P).map fun p => V' (p + 2)) = (List.range P).map fun p => V (p + 2) from List.map_congr_left fun p hp => (hV p (List.mem_range.1 hp)).symm]
  exact h
theorem TabAt.put {base : Nat} {w : World} {tb P : Nat} {V : Nat → Value} (h : TabAt base w tb P V) {p : Nat} (v : Value) : TabAt base (w.setCell ⟨tb, p, none⟩ v) tb P (upd V (p + 2) v) := by
  have q := (World.ownsRow.stored h p v).1
  unfold TabAt
  have e : ((List.range P).map fun p => V (p + 2)).set p v = (List.range P).map fun j => upd V (p + 2) v (j + 2) := by
    apply List.ext_getElem?
    intro j
    rw [List.getElem?_set]
    by_cases hj : j < P
    · rw [List.getElem?_map, List.getElem?_map, List.getElem?_range hj]
      by_cases hpj : p = j
      · subst hpj
        rw [if_pos rfl, if_pos (by simpa using hj)]
        show some v = some (upd V (p + 2) v (p + 2))
        rw [upd_self]
      · rw [if_neg hpj]
        show some (V (j + 2)) = some (upd V (p + 2) v (j + 2))
        rw [upd_ne _ _ (by omega)]
    · rw [List.getElem?_eq_none (l := (List.range P).map fun j => upd V (p + 2) v (j + 2)) (by simp; omega)]
      split
      · rw [if_neg (by simp; omega)]
      · rw [List.getElem?_eq_none (by simp; omega)]
  rw [← e]
  exact q
theorem RowsT.put {base : Nat} {w : World} {n : Nat} {V : Nat → Value} {L : Nat → List (List Int)} (h : RowsT base w n V L) {tb P : Nat} {V' : Nat → Value} (ht : TabAt base w tb P V') (p : Nat) (v : Value) : RowsT base (w.setCell ⟨tb, p, none⟩ v) n V L := h.other fun b cur t hty hh => by
  obtain ⟨cur', hh'⟩ := own_type ht (b := tb) rfl
  refine Below.heap_setCell _ _ _ _ ?_
  show b ≠ tb
  intro e
  subst e
  rw [hh] at hh'
  cases hh'
  rcases hty with e | e
  · exact ty_int_rows e.symm
  · exact ty_ints_rows e.symm

end Go.Proofs.Ytomijmikkbhgmab

namespace Go.Proofs.Ytomijmikkbhgmab

/-! a row that rises by a key -/
theorem idx_get {R : List Nat} {a : Nat} (h : a ∈ R) : R[R.idxOf a]? = some a := by
  rw [List.getElem?_eq_getElem (List.idxOf_lt_length_of_mem h), List.getElem_idxOf]
theorem idx_inv {R : List Nat} (hn : R.Nodup) {i a : Nat} (h : R[i]? = some a) : R.idxOf a = i := by
  obtain ⟨hlt, e⟩ := List.getElem?_eq_some_iff.1 h
  obtain ⟨hlt2, e2⟩ := List.getElem?_eq_some_iff.1 (idx_get (List.mem_of_getElem? h))
  exact (List.getElem_inj hn).1 (e2.trans e.symm)
theorem idx_inj {R : List Nat} {a b : Nat} (ha : a ∈ R) (hb : b ∈ R) (h : R.idxOf a = R.idxOf b) : a = b := by
  have h1 := idx_get ha
  rw [h, idx_get hb] at h1
  exact (Option.some.inj h1).symm
theorem rowOk_idx {E : List Evt} {R : List Nat} (hn : R.Nodup) (hm : ∀ a, a ∈ R ↔ a < E.length) : RowOk E R R.idxOf := ⟨fun a ha => idx_get ((hm a).2 ha), fun _ a hi => ⟨(hm a).1 (List.mem_of_getElem? hi), idx_inv hn hi⟩⟩

def keyA (κ : Nat → Nat) (n : Nat) : List (Int × Int) := (List.range n).flatMap fun a => ((List.range n).filter fun b => decide (κ a < κ b)).map fun b : Nat => ((a : Int), (b : Int))
theorem keyA_mem {κ : Nat → Nat} {n a b : Nat} (ha : a < n) (hb : b < n) (h : κ a < κ b) : ((a : Int), (b : Int)) ∈ keyA κ n := by
  unfold keyA
  exact List.mem_flatMap.2 ⟨a, List.mem_range.2 ha, List.mem_map.2 ⟨b, List.mem_filter.2 ⟨List.mem_range.2 hb, by simpa using h⟩, rfl⟩⟩
theorem keyA_free (κ : Nat → Nat) (n : Nat) : ¬ Cyc n (keyA κ n) := by
  refine along_acyclic (fun z => κ z.toNat) fun p hp => ?_
  unfold keyA at hp
  obtain ⟨a, _, h⟩ := List.mem_flatMap.1 hp
  obtain ⟨b, hb, rfl⟩ := List.mem_map.1 h
  have := (List.mem_filter.1 hb).2
  simpa using this

/-- A row that rises by a key. -/
theorem row_key {n : Nat} (κ : Nat → Nat) (hinj : ∀ a b, a < n → b < n → κ a = κ b → a = b) : ∃ R : List Nat, R.Nodup ∧ (∀ a, a ∈ R ↔ a < n) ∧ ∀ a b, a < n → b < n → (R.idxOf a < R.idxOf b ↔ κ a < κ b) := by
  obtain ⟨R, h1, h2, _, h4⟩ := row_of (keyA_free κ n)
  have up : ∀ a b, a < n → b < n → κ a < κ b → R.idxOf a < R.idxOf b := fun a b ha hb h => h4 _ _ a b (idx_get ((h2 a).2 ha)) (idx_get ((h2 b).2 hb)) (keyA_mem ha hb h)
  refine ⟨R, h1, h2, fun a b ha hb => ⟨fun h => ?_, up a b ha hb⟩⟩
  rcases Nat.lt_trichotomy (κ a) (κ b) with q | q | q
  · exact q
  · rw [hinj a b ha hb q] at h; omega
  · have := up b a hb ha q; omega

/-! two lists that rise by a key and have the same entries are the same -/
theorem rise_eq {κ : Int → Nat} {l m : List Int} (hl : l.Pairwise fun a b => κ a < κ b) (hm : m.Pairwise fun a b => κ a < κ b) (h : ∀ a, a ∈ l ↔ a ∈ m) : l = m := by
  induction l generalizing m with
  | nil =>
    cases m with
    | nil => rfl
    | cons b m => have := (h b).2 (List.mem_cons_self ..); cases this
  | cons a l ih =>
    cases m with
    | nil => have := (h a).1 (List.mem_cons_self ..); cases this
    | cons b m =>
      rw [List.pairwise_cons] at hl hm
      have hab : a = b := by
        rcases List.mem_cons.1 ((h a).1 (List.mem_cons_self ..)) with q | q
        · exact q
        · rcases List.mem_cons.1 ((h b).2 (List.mem_cons_self ..)) with q' | q'
          · exact q'.symm
          · have h1 := hm.1 a q
            have h2 := hl.1 b q'
            omega
      subst hab
      rw [ih hl.2 hm.2 fun c => ?_]
      have hnl : a ∉ l := fun q => by have := hl.1 a q; omega
      have hnm : a ∉ m := fun q => by have := hm.1 a q; omega
      constructor
      · intro hc
        rcases List.mem_cons.1 ((h c).1 (List.mem_cons_of_mem _ hc)) with q | q
        · rw [q] at hc; exact absurd hc hnl
        · exact q
      · intro hc
        rcases List.mem_cons.1 ((h c).2 (List.mem_cons_of_mem _ hc)) with q | q
        · rw [q] at hc; exact absurd hc hnm
        · exact q

theorem tails_pw {κ : Int → Nat} {l : List Int} (h : ∀ p ∈ tailsL l, κ p.1 < κ p.2) : l.Pairwise fun a b => κ a < κ b := by
  induction l with
  | nil => exact List.Pairwise.nil
  | cons a l ih =>
    unfold tailsL at h
    refine List.pairwise_cons.2 ⟨fun b hb => h (a, b) (List.mem_append_left _ (fanL_mem.2 ⟨rfl, hb⟩)), ih fun p hp => h p (List.mem_append_right _ hp)⟩

theorem zip_map {α β : Type} {A : List α} {F : List β} {g : α → β} (hl : F.length = A.length) (h : ∀ q ∈ A.zip F, q.2 = g q.1) : F = A.map g := by
  induction A generalizing F with
  | nil =>
    have : F = [] := List.eq_nil_of_length_eq_zero (by simpa using hl)
    rw [this]; rfl
  | cons a A ih =>
    cases F with
    | nil => simp at hl
    | cons f F =>
      rw [List.zip_cons_cons] at h
      rw [List.map_cons, ← h (a, f) (List.mem_cons_self ..), ← ih (by simpa using hl) fun q hq => h q (List.mem_cons_of_mem _ hq)]

/-- What is read and written along a row is the execution itself, if its arrows lead along the row. -/
theorem rowX_self {E : List Evt} (hloc : ∀ y ∈ E, locB y.loc = true) {R : List Nat} {τ : Nat → Nat} (h : RowOk E R τ) {X : Exe} (hx : IsEx E X) (hA : ∀ p ∈ arwL E X, keyT τ p.1 < keyT τ p.2) : rowX E R τ = X := by
  have hord : ∀ (j : Nat) (l : List Int), X.order[j]? = some l → l = ordR E R (j : Int) := fun j l hj => by
    refine rise_eq (κ := keyT τ) (tails_pw fun p hp => hA p ?_) (ordR_pw h _) fun a => ?_
    · unfold arwL
      exact List.mem_append_right _ (List.mem_flatMap.2 ⟨l, List.mem_of_getElem? hj, hp⟩)
    · rw [(hx.od j l hj).2, ordR_wrs h]
  have hat : ∀ loc : Int, locB loc = true → ordAt X loc = ordR E R loc := fun loc hb => by
    unfold locB at hb
    simp only [Bool.and_eq_true, decide_eq_true_eq] at hb
    have hl : loc.toNat < X.order.length := by rw [hx.o3]; omega
    obtain ⟨l, hl⟩ := get_of_lt hl
    unfold ordAt
    rw [List.getD_eq_getElem?_getD, hl]
    have := hord _ _ hl
    rw [this, Option.getD_some, show ((loc.toNat : Nat) : Int) = loc by omega]
  have hfrom : X.from' = (rdsX E 0).map fun p => lastR E R p.2.loc (τ p.1) := by
    refine zip_map hx.f fun q hq => ?_
    obtain ⟨⟨r, y⟩, f⟩ := q
    obtain ⟨_, hy, hk⟩ := rdsX_mem (List.of_mem_zip hq).1
    rw [Nat.sub_zero] at hy
    have hyl := hloc y (List.mem_of_getElem? hy)
    show f = lastR E R y.loc (τ r)
    have harw : ∀ p ∈ arw1 X ((r, y), f), keyT τ p.1 < keyT τ p.2 := fun p hp => hA p (by unfold arwL; exact List.mem_append_left _ (List.mem_flatMap.2 ⟨_, hq, hp⟩))
    have hbeh : ∀ b ∈ restL (ordR E R y.loc) f, τ r < keyT τ b := fun b hb => by
      have := harw ((r : Int), b) (by unfold arw1; refine List.mem_append_right _ (fanL_mem.2 ⟨rfl, ?_⟩); show b ∈ restL (ordAt X y.loc) f; rw [hat _ hyl]; exact hb)
      simpa only [keyT_nat] using this
    by_cases hf : f = -1
    · subst hf
      rcases lastR_spec h y.loc (τ r) with ⟨q, _⟩ | ⟨q1, q2, _, _⟩
      · exact q.symm
      · have := hbeh _ (show _ ∈ restL (ordR E R y.loc) (-1) from q1)
        omega
    · have hfw : f ∈ ordR E R y.loc := by
        rcases hx.fw _ hq with q | q
        · exact absurd q hf
        · exact (ordR_wrs h).2 q
      have hfr : keyT τ f < τ r := by
        have := harw (f, (r : Int)) (by unfold arw1; refine List.mem_append_left _ ?_; rw [if_neg (by simpa using hf)]; exact List.mem_singleton.2 rfl)
        simpa only [keyT_nat] using this
      rcases lastR_spec h y.loc (τ r) with ⟨_, q⟩ | ⟨q1, q2, _, q4⟩
      · have := q f hfw; omega
      · have hle : keyT τ f ≤ keyT τ (lastR E R y.loc (τ r)) := by
          rcases q4 f hfw with q | q
          · exact q
          · omega
        rcases Nat.lt_or_eq_of_le hle with hlt | heq
        · exfalso
          have hin : lastR E R y.loc (τ r) ∈ restL (ordR E R y.loc) f := by
            unfold restL
            rw [if_neg (by simpa using hf)]
            exact restK_in (ordR_pw h _) hfw q1 hlt
          have := hbeh _ hin
          omega
        · obtain ⟨e1, y1, a1, b1, _⟩ := (ordR_mem h).1 hfw
          obtain ⟨e2, y2, a2, b2, _⟩ := (ordR_mem h).1 q1
          rw [a1, a2] at heq ⊢
          rw [keyT_nat, keyT_nat] at heq
          rw [h.inj (List.getElem?_eq_some_iff.1 b1).1 (List.getElem?_eq_some_iff.1 b2).1 heq]
  have hordl : X.order = [ordR E R 0, ordR E R 1, ordR E R 2] := by
    have h3 := hx.o3
    match ho : X.order, h3 with
    | [a, b, c], _ =>
      have h0 := hord 0 a (by rw [ho]; rfl)
      have h1 := hord 1 b (by rw [ho]; rfl)
      have h2 := hord 2 c (by rw [ho]; rfl)
      rw [h0, h1, h2]
      rfl
  cases X
  simp only at hfrom hordl
  rw [hfrom, hordl]
  rfl

theorem rest_tails {l : List Int} {w a b : Int} {t : List Int} (h : restL l w = a :: t) (hb : b ∈ t) : (a, b) ∈ tailsL l := by
  have key : ∀ l : List Int, restG l w = a :: t → (a, b) ∈ tailsL l := by
    intro l
    induction l with
    | nil => intro h; simp [restG] at h
    | cons x l ih =>
      intro h
      unfold restG at h
      unfold tailsL
      split at h
      · subst h
        refine List.mem_append_right _ ?_
        unfold tailsL
        exact List.mem_append_left _ (fanL_mem.2 ⟨rfl, hb⟩)
      · exact List.mem_append_right _ (ih h)
  unfold restL at h
  split at h
  · subst h
    unfold tailsL
    exact List.mem_append_left _ (fanL_mem.2 ⟨rfl, hb⟩)
  · exact key l h

/-- Is an event the Read of a Swap? -/
def swB (E : List Evt) (a : Nat) : Bool := match E[a]? with
  | none => false
  | some y => y.kind == 0 && y.ins.op == 3
theorem swB_iff {E : List Evt} {a : Nat} : swB E a = true ↔ ∃ y, E[a]? = some y ∧ y.kind = 0 ∧ y.ins.op = 3 := by
  unfold swB
  cases h : E[a]? with
  | none => simp
  | some y => simp
theorem swB_kind {E : List Evt} {a : Nat} {y : Evt} (h : E[a]? = some y) (hk : y.kind ≠ 0) : swB E a = false := by
  unfold swB
  rw [h]
  have : (y.kind == 0) = false := by simpa using hk
  simp [this]

/-- Where there is no circle with all that the threads do in their order, it comes out by turns. -/
theorem order_turns {T : List (List Ins)} {c : List Atm} (hz : ((chk T c).1 == 0) = true) {X : Exe} (hx : IsEx (evsT T 0) X) (ht : tornB (evsT T 0) X = false) {A : List (Int × Int)} (hA : ¬ Cyc (evsT T 0).length A) (h1 : ∀ p ∈ arwL (evsT T 0) X, p ∈ A)
    (h2 : ∀ (a b : Nat) (ya yb : Evt), (evsT T 0)[a]? = some ya → (evsT T 0)[b]? = some yb → ya.thread = yb.thread → a < b → ((a : Int), (b : Int)) ∈ A)
    (h3 : ∀ m ∈ mtL (thoL 2 (evsT T 0) 0) (thoL 3 (evsT T 0) 0) (thoL 4 (evsT T 0) 0), (m.e, m.f) ∈ A ∨ (m.s, m.b) ∈ A) : ∃ R M, Run T R M ∧ DoneM T M ∧ stX T (evsT T 0) X = tailM T.length M := by
  have hF := fits_of hz
  have hn := nstF_all (chk_nested hz).1
  have hsw : SwOk (evsT T 0) := swOk_T T 0
  have hlocs := hF.locs
  generalize hE : evsT T 0 = E at *
  obtain ⟨L, l1, l2, _, l4⟩ := row_of hA
  have hlt : ∀ {a : Nat} {y : Evt}, E[a]? = some y → a < E.length := fun hy => (List.getElem?_eq_some_iff.1 hy).1
  have up : ∀ a b : Nat, a < E.length → b < E.length → ((a : Int), (b : Int)) ∈ A → L.idxOf a < L.idxOf b := fun a b ha hb hab => l4 _ _ a b (idx_get ((l2 a).2 ha)) (idx_get ((l2 b).2 hb)) hab
  have lin : ∀ a b, a < E.length → b < E.length → L.idxOf a = L.idxOf b → a = b := fun a b ha hb q => idx_inj ((l2 a).2 ha) ((l2 b).2 hb) q
  -- the Write of a Swap
  have hsn : ∀ a, swB E a = true → a + 1 < E.length ∧ swB E (a + 1) = false ∧ L.idxOf a < L.idxOf (a + 1) ∧ ∃ y z, E[a]? = some y ∧ E[a + 1]? = some z ∧ y.thread = z.thread ∧ z.kind = 1 ∧ y.kind = 0 ∧ y.ins.op = 3 := fun a ha => by
    obtain ⟨y, q1, q2, q3⟩ := swB_iff.1 ha
    have q4 := hsw.s1 a y q1 q2 q3
    exact ⟨hlt q4, swB_kind q4 (by show (1 : Int) ≠ 0; omega), up _ _ (hlt q1) (hlt q4) (h2 _ _ _ _ q1 q4 rfl (by omega)), y, _, q1, q4, rfl, rfl, q2, q3⟩
  -- the key
  obtain ⟨κ, hκ⟩ : ∃ κ : Nat → Nat, ∀ a, κ a = if swB E a then 2 * L.idxOf (a + 1) else 2 * L.idxOf a + 1 := ⟨_, fun _ => rfl⟩
  have κs : ∀ a, swB E a = true → κ a = 2 * L.idxOf (a + 1) := fun a ha => by rw [hκ, if_pos ha]
  have κn : ∀ a, swB E a = false → κ a = 2 * L.idxOf a + 1 := fun a ha => by rw [hκ, if_neg (by simp [ha])]
  have κinj : ∀ a b, a < E.length → b < E.length → κ a = κ b → a = b := fun a b ha hb q => by
    cases ea : swB E a <;> cases eb : swB E b
    · rw [κn a ea, κn b eb] at q; exact lin a b ha hb (by omega)
    · rw [κn a ea, κs b eb] at q; omega
    · rw [κs a ea, κn b eb] at q; omega
    · rw [κs a ea, κs b eb] at q
      have := lin (a + 1) (b + 1) (hsn a ea).1 (hsn b eb).1 (by omega)
      omega
  have κup : ∀ a b : Nat, a < E.length → b < E.length → ((a : Int), (b : Int)) ∈ A → (swB E a = true → b = a + 1 ∨ ((((a + 1 : Nat)) : Int), (b : Int)) ∈ A) → κ a < κ b := fun a b ha hb hab hs => by
    have hb2 : 2 * L.idxOf b + 1 ≤ κ b := by
      cases eb : swB E b
      · rw [κn b eb]; omega
      · rw [κs b eb]; have := (hsn b eb).2.2.1; omega
    cases ea : swB E a
    · have := up a b ha hb hab
      rw [κn a ea]; omega
    · rw [κs a ea]
      rcases hs ea with rfl | q
      · omega
      · have := up (a + 1) b (hsn a ea).1 hb q
        omega
  obtain ⟨R, r1, r2, r3⟩ := row_key κ κinj
  have hO : RowOk E R R.idxOf := rowOk_idx r1 r2
  have hthr : ∀ (a b : Nat) (ya yb : Evt), E[a]? = some ya → E[b]? = some yb → ya.thread = yb.thread → a < b → R.idxOf a < R.idxOf b := fun a b ya yb ha hb hth hab => by
    refine (r3 a b (hlt ha) (hlt hb)).2 (κup a b (hlt ha) (hlt hb) (h2 a b ya yb ha hb hth hab) fun es => ?_)
    by_cases hb1 : b = a + 1
    · exact .inl hb1
    · obtain ⟨_, _, _, y, z, q1, q2, q3, _⟩ := hsn a es
      rw [ha] at q1
      cases q1
      exact .inr (h2 (a + 1) b z yb q2 hb (q3.symm.trans hth) (by omega))
  have hswp : ∀ (r : Nat) (y : Evt), E[r]? = some y → y.kind = 0 → y.ins.op = 3 → R.idxOf (r + 1) = R.idxOf r + 1 := fun r y hy hk ho => by
    have es := swB_iff.2 ⟨y, hy, hk, ho⟩
    obtain ⟨q1, q2, q3, _⟩ := hsn r es
    have hlt1 : R.idxOf r < R.idxOf (r + 1) := (r3 _ _ (hlt hy) q1).2 (by rw [κs r es, κn _ q2]; omega)
    have hlen := List.idxOf_lt_length_of_mem ((r2 (r + 1)).2 q1)
    rcases Nat.lt_or_ge (R.idxOf r + 1) (R.idxOf (r + 1)) with hgap | hge
    · exfalso
      obtain ⟨d, hd⟩ := get_of_lt (l := R) (k := R.idxOf r + 1) (by omega)
      have hdE := (r2 d).1 (List.mem_of_getElem? hd)
      have hdi := idx_inv r1 hd
      have a1 := (r3 r d (hlt hy) hdE).1 (by omega)
      have a2 := (r3 d (r + 1) hdE q1).1 (by omega)
      rw [κs r es] at a1
      rw [κn _ q2] at a2
      omega
    · omega
  have hsec : ∀ m ∈ mtL (thoL 2 E 0) (thoL 3 E 0) (thoL 4 E 0), keyT R.idxOf m.e < keyT R.idxOf m.f ∨ keyT R.idxOf m.s < keyT R.idxOf m.b := fun m hm => by
    have h3m := h3 m hm
    rw [← hE] at hm
    obtain ⟨k, b, e, i, s, f, hs, hy, rfl⟩ := mt_secs hn hm
    obtain ⟨l, u, v, yb, ye, p1, p2, p3, p4, p5⟩ := hs
    obtain ⟨li, r, ys, yf, y1, y2, y3, y4⟩ := hy
    have b1 := p2.ev
    have e1 := p4.ev
    have s1 := y1.ev
    have f1 := y3.ev
    rw [hE] at b1 e1 s1 f1
    simp only [keyT_nat]
    rcases h3m with q | q
    · refine .inl ((r3 _ _ (hlt e1) (hlt f1)).2 (κup _ _ (hlt e1) (hlt f1) q fun es => ?_))
      rw [swB_kind e1 (by rw [p5]; omega)] at es
      cases es
    · refine .inr ((r3 _ _ (hlt s1) (hlt b1)).2 (κup _ _ (hlt s1) (hlt b1) q fun es => ?_))
      rw [swB_kind s1 (by rw [y2]; omega)] at es
      cases es
  have hwk : ∀ {loc a : Int}, a ∈ wrs E 0 loc → ∃ e : Nat, a = (e : Int) ∧ e < E.length ∧ swB E e = false := fun {loc a} ha => by
    obtain ⟨e, y, q1, q2, q3, _⟩ := wrs_iff.1 ha
    exact ⟨e, q2, hlt q1, swB_kind q1 (by rw [q3]; omega)⟩
  have hordm : ∀ {loc : Int} {a : Int}, locB loc = true → a ∈ ordAt X loc → a ∈ wrs E 0 loc := fun {loc a} hb ha => by
    unfold locB at hb
    simp only [Bool.and_eq_true, decide_eq_true_eq] at hb
    have hl : loc.toNat < X.order.length := by rw [hx.o3]; omega
    obtain ⟨l, hl⟩ := get_of_lt hl
    unfold ordAt at ha
    rw [List.getD_eq_getElem?_getD, hl] at ha
    have := ((hx.od _ l hl).2 a).1 ha
    rw [show ((loc.toNat : Nat) : Int) = loc by omega] at this
    exact this
  have harw : ∀ p ∈ arwL E X, keyT R.idxOf p.1 < keyT R.idxOf p.2 := fun p hp => by
    have hpA := h1 p hp
    have hp0 := hp
    unfold arwL at hp
    rcases List.mem_append.1 hp with hp | hp
    · obtain ⟨⟨⟨r, y⟩, f⟩, hq, hp⟩ := List.mem_flatMap.1 hp
      obtain ⟨_, hy, hk⟩ := rdsX_mem (List.of_mem_zip hq).1
      rw [Nat.sub_zero] at hy
      have hyl := hlocs y (List.mem_of_getElem? hy)
      unfold arw1 at hp
      rcases List.mem_append.1 hp with hp | hp
      · split at hp
        · cases hp
        · rename_i hf
          have hpe : p = (f, (r : Int)) := by simpa using hp
          subst hpe
          have hfw : f ∈ wrs E 0 y.loc := by
            rcases hx.fw _ hq with q | q
            · exact absurd (by simpa using q) hf
            · exact q
          obtain ⟨e, rfl, he, hs⟩ := hwk hfw
          simp only [keyT_nat]
          exact (r3 _ _ he (hlt hy)).2 (κup _ _ he (hlt hy) hpA fun es => by rw [hs] at es; cases es)
      · obtain ⟨p1, p2⟩ := p
        obtain ⟨q1, q2⟩ := fanL_mem.1 hp
        simp only at q1 q2
        subst q1
        obtain ⟨e, rfl, he, hs⟩ := hwk (hordm hyl (restL_mem q2))
        simp only [keyT_nat]
        refine (r3 _ _ (hlt hy) he).2 (κup _ _ (hlt hy) he hpA fun es => ?_)
        obtain ⟨y', q3, q4, q5⟩ := swB_iff.1 es
        rw [hy] at q3
        cases q3
        have htn : torn1 X ((r, y), f) = false := by
          cases hh : torn1 X ((r, y), f)
          · rfl
          · have : tornB E X = true := List.any_eq_true.2 ⟨_, hq, hh⟩
            rw [ht] at this; cases this
        unfold torn1 at htn
        simp only [q5] at htn
        have htn' : headNe (restL (ordAt X y.loc) f) ((r : Int) + 1) = false := by simpa using htn
        cases hrl : restL (ordAt X y.loc) f with
        | nil => rw [hrl] at q2; cases q2
        | cons a t =>
          rw [hrl] at htn' q2
          have ha : a = (r : Int) + 1 := by simpa [headNe] using htn'
          subst ha
          rcases List.mem_cons.1 q2 with q | q
          · exact .inl (by omega)
          · refine .inr (h1 _ ?_)
            have hl : y.loc.toNat < X.order.length := by
              have hb := hyl
              unfold locB at hb
              simp only [Bool.and_eq_true, decide_eq_true_eq] at hb
              rw [hx.o3]; omega
            obtain ⟨l, hl⟩ := get_of_lt hl
            unfold arwL
            refine List.mem_append_right _ (List.mem_flatMap.2 ⟨l, List.mem_of_getElem? hl, ?_⟩)
            have hol : ordAt X y.loc = l := by unfold ordAt; rw [List.getD_eq_getElem?_getD, hl]; rfl
            rw [hol] at hrl
            have := rest_tails hrl q
            rw [show (((r + 1 : Nat)) : Int) = (r : Int) + 1 by omega]
            exact this
    · obtain ⟨l, hl, hp⟩ := List.mem_flatMap.1 hp
      obtain ⟨j, hj⟩ := List.getElem?_of_mem hl
      obtain ⟨p1, p2⟩ := p
      have hmem : ∀ (l : List Int), (p1, p2) ∈ tailsL l → p1 ∈ l ∧ p2 ∈ l := by
        intro l
        induction l with
        | nil => intro h; simp [tailsL] at h
        | cons a l ih =>
          intro h
          unfold tailsL at h
          rcases List.mem_append.1 h with h | h
          · obtain ⟨q1, q2⟩ := fanL_mem.1 h
            simp only at q1 q2
            exact ⟨by rw [q1]; exact List.mem_cons_self .., List.mem_cons_of_mem _ q2⟩
          · exact ⟨List.mem_cons_of_mem _ (ih h).1, List.mem_cons_of_mem _ (ih h).2⟩
      obtain ⟨m1, m2⟩ := hmem l hp
      obtain ⟨e1, rfl, he1, hs1⟩ := hwk (((hx.od j l hj).2 _).1 m1)
      obtain ⟨e2, rfl, he2, _⟩ := hwk (((hx.od j l hj).2 _).1 m2)
      simp only [keyT_nat]
      exact (r3 _ _ he1 he2).2 (κup _ _ he1 he2 hpA fun es => by rw [hs1] at es; cases es)
  have hself := rowX_self hlocs hO hx harw
  subst hE
  obtain ⟨M, m1, m2⟩ := row_run hz hO ⟨hthr, hswp, hsec⟩
  refine ⟨R, M, m1, m2, ?_⟩
  rw [← turns_state hz m1 m2, hself]

end Go.Proofs.Ytomijmikkbhgmab

namespace Go.Proofs.Ytomijmikkbhgmab
open Go.RowKit

def addK : List (List Int × Nat) → List Int → List (List Int × Nat)
  | [], s => [(s, 1)]
  | p :: K, s => if p.1 == s then (p.1, p.2 + 1) :: K else p :: addK K s

/-- Is a state among those counted? -/
def hasK (K : List (List Int × Nat)) (s : List Int) : Bool := K.any fun p => p.1 == s

theorem hasK_iff {K : List (List Int × Nat)} {s : List Int} : hasK K s = true ↔ ∃ p ∈ K, p.1 = s := by
  unfold hasK
  rw [List.any_eq_true]
  simp

theorem addK_len (K : List (List Int × Nat)) (s : List Int) : (addK K s).length = K.length + if hasK K s then 0 else 1 := by
  induction K with
  | nil => simp [addK, hasK]
  | cons p K ih =>
    rw [addK]
    cases h : p.1 == s
    · rw [if_neg (by simp)]
      simp only [List.length_cons, ih]
      unfold hasK
      rw [List.any_cons, h, Bool.false_or]
      omega
    · rw [if_pos rfl]
      unfold hasK
      rw [List.any_cons, h, Bool.true_or]
      simp

theorem addK_has (K : List (List Int × Nat)) (s t : List Int) : hasK (addK K s) t = (hasK K t || s == t) := by
  induction K with
  | nil => simp [addK, hasK]
  | cons p K ih =>
    rw [addK]
    cases h : p.1 == s
    · rw [if_neg (by simp)]
      unfold hasK at ih ⊢
      rw [List.any_cons, List.any_cons, ih, Bool.or_assoc]
    · rw [if_pos rfl]
      have h1 : p.1 = s := by simpa using h
      unfold hasK
      rw [List.any_cons, List.any_cons, h1]
      cases s == t <;> simp

/-- Every count is that of its state. -/
def CntK (K : List (List Int × Nat)) (L : List (List Int)) : Prop := ∀ p ∈ K, p.2 = cnSt L p.1

theorem cnSt_cons (a : List Int) (L : List (List Int)) (t : List Int) : cnSt (a :: L) t = (if a == t then 1 else 0) + cnSt L t := by rw [cnSt]

theorem cnSt_app (L M : List (List Int)) (t : List Int) : cnSt (L ++ M) t = cnSt L t + cnSt M t := by
  induction L with
  | nil => simp [cnSt]
  | cons a L ih => rw [List.cons_append, cnSt_cons, cnSt_cons, ih]; omega

/-- States each once, and each with its count. -/
structure Sums (K : List (List Int × Nat)) (L : List (List Int)) : Prop where
  dis : K.Pairwise fun p q => p.1 ≠ q.1
  cnt : ∀ p ∈ K, p.2 = cnSt L p.1
  has : ∀ t, hasK K t = true ↔ t ∈ L

theorem addK_mem {K : List (List Int × Nat)} {s : List Int} {q : List Int × Nat} (h : q ∈ addK K s) : (q ∈ K ∧ q.1 ≠ s) ∨ (q.1 = s ∧ ((∃ p ∈ K, p.1 = s ∧ q.2 = p.2 + 1) ∨ ((∀ p ∈ K, p.1 ≠ s) ∧ q.2 = 1))) ∨ (q ∈ K ∧ ∃ a b, K = a ++ b ∧ q ∈ b ∧ ∃ p ∈ a, p.1 = s) := by
  induction K with
  | nil =>
    rw [addK] at h
    simp at h
    subst h
    exact .inr (.inl ⟨rfl, .inr ⟨fun p hp => (by cases hp), rfl⟩⟩)
  | cons p K ih =>
    rw [addK] at h
    cases hp : p.1 == s
    · rw [hp, if_neg (by simp)] at h
      have hps : p.1 ≠ s := by simpa using hp
      rcases List.mem_cons.1 h with rfl | h
      · exact .inl ⟨List.mem_cons_self, hps⟩
      · rcases ih h with ⟨h1, h2⟩ | ⟨h1, ⟨p', h2, h3⟩ | ⟨h2, h3⟩⟩ | ⟨h1, a, b, rfl, h3, p', h4, h5⟩
        · exact .inl ⟨List.mem_cons_of_mem _ h1, h2⟩
        · exact .inr (.inl ⟨h1, .inl ⟨p', List.mem_cons_of_mem _ h2, h3⟩⟩)
        · refine .inr (.inl ⟨h1, .inr ⟨fun x hx => ?_, h3⟩⟩)
          rcases List.mem_cons.1 hx with rfl | hx
          · exact hps
          · exact h2 x hx
        · exact .inr (.inr ⟨List.mem_cons_of_mem _ h1, p :: a, b, rfl, h3, p', List.mem_cons_of_mem _ h4, h5⟩)
    · rw [hp, if_pos rfl] at h
      have hps : p.1 = s := by simpa using hp
      rcases List.mem_cons.1 h with rfl | h
      · exact .inr (.inl ⟨hps, .inl ⟨p, List.mem_cons_self, hps, rfl⟩⟩)
      · exact .inr (.inr ⟨List.mem_cons_of_mem _ h, [p], K, rfl, h, p, List.mem_cons_self, hps⟩)

theorem addK_dis {K : List (List Int × Nat)} (h : K.Pairwise fun p q => p.1 ≠ q.1) (s : List Int) : (addK K s).Pairwise fun p q => p.1 ≠ q.1 := by
  induction K with
  | nil => simp [addK]
  | cons p K ih =>
    rw [List.pairwise_cons] at h
    rw [addK]
    cases hp : p.1 == s
    · rw [if_neg (by simp), List.pairwise_cons]
      refine ⟨fun q hq => ?_, ih h.2⟩
      have hps : p.1 ≠ s := by simpa using hp
      rcases addK_mem hq with ⟨h1, _⟩ | ⟨h1, _⟩ | ⟨h1, _⟩
      · exact h.1 q h1
      · rw [h1]; exact hps
      · exact h.1 q h1
    · rw [if_pos rfl, List.pairwise_cons]
      exact ⟨fun q hq => h.1 q hq, h.2⟩

theorem Sums.nil : Sums [] [] := ⟨List.Pairwise.nil, fun p hp => (by cases hp), fun t => by simp [hasK]⟩

theorem dis_split {a b : List (List Int × Nat)} (h : (a ++ b).Pairwise fun p q => p.1 ≠ q.1) {p q : List Int × Nat} (hp : p ∈ a) (hq : q ∈ b) : p.1 ≠ q.1 := (List.pairwise_append.1 h).2.2 p hp q hq

theorem cnSt_zero {L : List (List Int)} {t : List Int} (h : t ∉ L) : cnSt L t = 0 := by
  rcases Nat.eq_zero_or_pos (cnSt L t) with h0 | h0
  · exact h0
  · exact absurd (cnSt_pos.1 h0) h

theorem Sums.add {K : List (List Int × Nat)} {L : List (List Int)} (h : Sums K L) (s : List Int) : Sums (addK K s) (L ++ [s]) := by
  refine ⟨addK_dis h.dis s, fun q hq => ?_, fun t => ?_⟩
  · rw [cnSt_app, cnSt_cons, show cnSt [] q.1 = 0 from rfl, Nat.add_zero]
    rcases addK_mem hq with ⟨h1, h2⟩ | ⟨h1, ⟨p, h2, h3, h4⟩ | ⟨h2, h3⟩⟩ | ⟨h1, a, b, rfl, h3, p, h4, h5⟩
    · rw [if_neg (by simpa using fun e : s = q.1 => h2 e.symm), Nat.add_zero]
      exact h.cnt q h1
    · rw [h1, if_pos (by simp), h4, h.cnt p h2, h3]
    · have : s ∉ L := fun hm => by
        obtain ⟨p, hp, e⟩ := hasK_iff.1 ((h.has s).2 hm)
        exact h2 p hp e
      rw [h1, if_pos (by simp), h3, cnSt_zero this]
    · have hne := dis_split h.dis h4 h3
      rw [if_neg (by rw [← h5]; simpa using hne), Nat.add_zero]
      exact h.cnt q h1
  · rw [addK_has, Bool.or_eq_true, h.has t, List.mem_append, List.mem_singleton, beq_iff_eq]
    exact or_congr Iff.rfl eq_comm

/-- Two such countings are as long as each other. -/
theorem Sums.len {K K' : List (List Int × Nat)} {L : List (List Int)} (h : Sums K L) (hs : K'.Pairwise fun p q => p.1 ≠ q.1) (hh : ∀ t, hasK K' t = true ↔ t ∈ L) : K.length = K'.length := by
  have key : ∀ (A B : List (List Int)), A.Pairwise (· ≠ ·) → B.Pairwise (· ≠ ·) → (∀ t, t ∈ A ↔ t ∈ B) → A.length = B.length := by
    intro A B hA hB hAB
    exact ((List.perm_ext_iff_of_nodup hA hB).2 hAB).length_eq
  have := key (K.map (·.1)) (K'.map (·.1)) (List.pairwise_map.2 h.dis) (List.pairwise_map.2 hs) (fun t => by
    have h1 := h.has t
    have h2 := hh t
    rw [hasK_iff] at h1 h2
    simp only [List.mem_map]
    exact h1.trans h2.symm)
  simpa using this

theorem srt_dis {K : List (List Int × Nat)} (h : SrtK K) : K.Pairwise fun p q => p.1 ≠ q.1 := by
  rw [List.pairwise_iff_getElem]
  intro i j hi hj hij e
  have := srt_get h hij (List.getElem?_eq_getElem hi) (List.getElem?_eq_getElem hj)
  rw [e, ltL_irr] at this
  cases this

theorem sums_out {n : Nat} {K : List (List Int × Nat)} {L : List (List Int)} (hL : ∀ s ∈ L, s.length = n) (h : Sums K L) : K.length = (outK L).length ∧ ∀ p ∈ K, cnOu (outK L) p.1 = p.2 := by
  obtain ⟨s1, _, s3, s4⟩ := outK_spec hL
  refine ⟨h.len (srt_dis s1) fun t => ?_, fun p hp => by rw [s4, h.cnt p hp]⟩
  rw [hasK_iff, ← cnSt_pos, ← s4]
  constructor
  · rintro ⟨p, hp, rfl⟩
    rw [cnOu_at s1 hp]
    exact s3 p hp
  · intro h0
    exact cnOu_pos h0

end Go.Proofs.Ytomijmikkbhgmab

namespace Go.Proofs.Ytomijmikkbhgmab

theorem nodup_leA {α : Type} {l m : List α} (h : l.Nodup) (hs : ∀ x ∈ l, x ∈ m) : l.length ≤ m.length := by
  induction l generalizing m with
  | nil => exact Nat.zero_le _
  | cons x l ih =>
    obtain ⟨h1, h2⟩ := List.nodup_cons.1 h
    obtain ⟨a, b, rfl⟩ := List.append_of_mem (hs x (List.mem_cons_self ..))
    have := ih (m := a ++ b) h2 (fun y hy => by
      have hy' := hs y (List.mem_cons_of_mem _ hy)
      rcases List.mem_append.1 hy' with q | q
      · exact List.mem_append_left _ q
      · rcases List.mem_cons.1 q with rfl | q
        · exact absurd hy h1
        · exact List.mem_append_right _ q)
    simp only [List.length_append, List.length_cons] at this ⊢
    omega

theorem lx_irr (l : List Int) : lx l l = false := by
  induction l with
  | nil => rfl
  | cons a l ih => rw [lx, if_pos (by simp)]; exact ih

theorem exN_inj {E : List Evt} {a b : Nat} (ha : a < sizeN E) (hb : b < sizeN E) (h : exN E a = exN E b) : a = b := by
  have key : ∀ a b, a < b → b < sizeN E → exN E a ≠ exN E b := fun a b hab hb e => by
    have h1 := exs_at E a (by omega)
    have h2 := exs_at E b hb
    obtain ⟨k1, e1⟩ := List.getElem?_eq_some_iff.1 h1
    obtain ⟨k2, e2⟩ := List.getElem?_eq_some_iff.1 h2
    have := List.pairwise_iff_getElem.1 (exs_asc E) a b k1 k2 hab
    rw [e1, e2, e, lx_irr] at this
    cases this
  rcases Nat.lt_trichotomy a b with q | q | q
  · exact absurd h (key a b q hb)
  · exact q
  · exact absurd h.symm (key b a q ha)

theorem map_inj_on {α β : Type} {f : α → β} {l m : List α} (h : ∀ a ∈ l, ∀ b ∈ m, f a = f b → a = b) (he : l.map f = m.map f) : l = m := by
  induction l generalizing m with
  | nil => cases m with
    | nil => rfl
    | cons b m => simp at he
  | cons a l ih => cases m with
    | nil => simp at he
    | cons b m =>
      rw [List.map_cons, List.map_cons] at he
      injection he with e1 e2
      rw [h a (List.mem_cons_self ..) b (List.mem_cons_self ..) e1, ih (fun x hx y hy => h x (List.mem_cons_of_mem _ hx) y (List.mem_cons_of_mem _ hy)) e2]

theorem from_src {T : List (List Ins)} (hF : Fits T) {x : Exe} (hx : IsEx (evsT T 0) x) : x.from' = (rdsX (evsT T 0) 0).map fun p => srcS (evsT T 0) x p.1 := by
  have hr := hx.ranks hF.el hF.locs
  apply List.ext_getElem?
  intro i
  rw [List.getElem?_map]
  by_cases hi : i < x.from'.length
  · obtain ⟨f, hf⟩ := get_of_lt hi
    obtain ⟨p, hp⟩ := get_of_lt (l := rdsX (evsT T 0) 0) (k := i) (by rw [← hx.f]; exact hi)
    have hz : (p, f) ∈ (rdsX (evsT T 0) 0).zip x.from' := by
      refine List.mem_of_getElem? (i := i) ?_
      rw [List.getElem?_zip_eq_some]
      exact ⟨hp, hf⟩
    have := ((hr.zip p.1 p.2 f).1 hz).2.2
    rw [hf, hp, Option.map_some]
    exact congrArg some this.symm
  · rw [List.getElem?_eq_none (by omega), List.getElem?_eq_none (by rw [← hx.f]; omega)]
    rfl

theorem phi_inj {T T' : List (List Ins)} {σ : Nat → Nat} {k m : Int} (h : Rn T T' σ k m) {x z : Exe} (hx : IsEx (evsT T 0) x) (hz : IsEx (evsT T 0) z) (e : phiX T T' σ k m x = phiX T T' σ k m z) : x = z := by
  have hrx := hx.ranks h.f.el h.f.locs
  have hrz := hz.ranks h.f.el h.f.locs
  have piinj : ∀ a b : Int, (a = -1 ∨ ∃ i : Nat, a = (i : Int) ∧ i < (evsT T 0).length) → (b = -1 ∨ ∃ i : Nat, b = (i : Int) ∧ i < (evsT T 0).length) → piI T T' σ a = piI T T' σ b → a = b := by
    rintro a b (rfl | ⟨i, rfl, hi⟩) (rfl | ⟨j, rfl, hj⟩) e
    · rfl
    · rw [piI_neg, piI_nat] at e; omega
    · rw [piI_neg, piI_nat] at e; omega
    · rw [piI_nat, piI_nat] at e
      rw [piE_inj h.r hi hj (by omega)]
  have hord : ∀ loc, locB loc = true → ordAt x loc = ordAt z loc := fun loc hl => by
    have hl' := lamL_ok h.hk h.hm hl
    have e1 := phi_ord (T := T) (T' := T') (σ := σ) (k := k) (m := m) (x := x) hl'
    have e2 := phi_ord (T := T) (T' := T') (σ := σ) (k := k) (m := m) (x := z) hl'
    rw [lamL_inv] at e1 e2
    rw [e] at e1
    have e3 := e1.symm.trans e2
    refine map_inj_on (fun a ha b hb hab => ?_) e3
    obtain ⟨i, _, q1, q2, _⟩ := (hrx.mem _ hl a).1 ha
    obtain ⟨j, _, r1, r2, _⟩ := (hrz.mem _ hl b).1 hb
    exact piinj a b (.inr ⟨i, q2, (List.getElem?_eq_some_iff.1 q1).1⟩) (.inr ⟨j, r2, (List.getElem?_eq_some_iff.1 r1).1⟩) hab
  have hsrc : ∀ i, i < (evsT T 0).length → srcS (evsT T 0) x i = srcS (evsT T 0) z i := fun i hi => by
    have e1 := phi_src h hx hi
    have e2 := phi_src h hz hi
    rw [e] at e1
    have rng : ∀ {w : Exe} (_ : IsEx (evsT T 0) w), srcS (evsT T 0) w i = -1 ∨ ∃ j : Nat, srcS (evsT T 0) w i = (j : Int) ∧ j < (evsT T 0).length := fun {w} hw => by
      have hr := hw.ranks h.f.el h.f.locs
      obtain ⟨y, hy⟩ := get_of_lt hi
      by_cases hk : y.kind = 0
      · rcases hr.read i y hy hk with ⟨s1, _⟩ | ⟨a, _, s1, s2, _⟩
        · exact .inl s1
        · exact .inr ⟨a, s1, s2⟩
      · exact .inl (hr.other i y hy hk)
    exact piinj _ _ (rng hx) (rng hz) (e1.symm.trans e2)
  have ef : x.from' = z.from' := by
    rw [from_src h.f hx, from_src h.f hz]
    refine List.map_congr_left fun p hp => ?_
    obtain ⟨_, q1, _⟩ := rdsX_mem hp
    rw [Nat.sub_zero] at q1
    exact hsrc _ (List.getElem?_eq_some_iff.1 q1).1
  have eo : x.order = z.order := by
    apply List.ext_getElem?
    intro j
    by_cases hj : j < 3
    · have := hord (j : Int) (by unfold locB; simp; omega)
      unfold ordAt at this
      rw [Int.toNat_natCast] at this
      obtain ⟨a, ha⟩ := get_of_lt (l := x.order) (k := j) (by rw [hx.o3]; exact hj)
      obtain ⟨b, hb⟩ := get_of_lt (l := z.order) (k := j) (by rw [hz.o3]; exact hj)
      rw [List.getD_eq_getElem?_getD, List.getD_eq_getElem?_getD, ha, hb] at this
      have hab : a = b := this
      rw [ha, hb, hab]
    · rw [List.getElem?_eq_none (by rw [hx.o3]; omega), List.getElem?_eq_none (by rw [hz.o3]; omega)]
  cases x
  cases z
  simp only at ef eo
  rw [ef, eo]

theorem ren_sub {T T' : List (List Ins)} {σ : Nat → Nat} {k m : Int} (h : Rn T T' σ k m) (P : Nat → Bool) (Q : Nat → Bool) (hPQ : ∀ n n', n < sizeN (evsT T 0) → n' < sizeN (evsT T' 0) → exN (evsT T' 0) n' = phiX T T' σ k m (exN (evsT T 0) n) → P n = true → Q n' = true) :
    ((List.range (sizeN (evsT T 0))).filter P).length ≤ ((List.range (sizeN (evsT T' 0))).filter Q).length := by
  have hex : ∀ n, ∃ n', n' < sizeN (evsT T' 0) ∧ exN (evsT T' 0) n' = phiX T T' σ k m (exN (evsT T 0) n) := fun n => (phi_isEx h (exN_isEx _ n)).mem
  have h1 := nodup_leA (l := ((List.range (sizeN (evsT T 0))).filter P).map fun n => Classical.choose (hex n)) (m := (List.range (sizeN (evsT T' 0))).filter Q) ?_ ?_
  · simpa using h1
  · refine nodup_map_on (fun a ha b hb e => ?_) (List.nodup_range.filter _)
    have ha' := List.mem_range.1 (List.mem_filter.1 ha).1
    have hb' := List.mem_range.1 (List.mem_filter.1 hb).1
    have e1 := (Classical.choose_spec (hex a)).2
    have e2 := (Classical.choose_spec (hex b)).2
    rw [e] at e1
    exact exN_inj ha' hb' (phi_inj h (exN_isEx _ a) (exN_isEx _ b) (e1.symm.trans e2))
  · intro y hy
    obtain ⟨n, hn, rfl⟩ := List.mem_map.1 hy
    obtain ⟨q1, q2⟩ := List.mem_filter.1 hn
    obtain ⟨c1, c2⟩ := Classical.choose_spec (hex n)
    exact List.mem_filter.2 ⟨List.mem_range.2 c1, hPQ n _ (List.mem_range.1 q1) c1 c2 q2⟩

theorem ren_size {T T' : List (List Ins)} {σ : Nat → Nat} {k m : Int} (h : Rn T T' σ k m) : sizeN (evsT T 0) ≤ sizeN (evsT T' 0) := by
  have := ren_sub h (fun _ => true) (fun _ => true) (fun _ _ _ _ _ _ => rfl)
  rw [List.filter_eq_self.2 (fun _ _ => rfl), List.filter_eq_self.2 (fun _ _ => rfl), List.length_range, List.length_range] at this
  exact this

theorem cnSt_fil (al : Nat → Bool) (f : Nat → List Int) (N : Nat) (s : List Int) : cnSt ((casN al N).map f) s = ((List.range N).filter fun n => al n && f n == s).length := by
  induction N with
  | zero => rfl
  | succ N ih =>
    rw [List.range_succ, List.filter_append, List.length_append, ← ih]
    cases h1 : al N
    · rw [casN_no h1]
      simp [h1]
    · rw [casN_yes h1, List.map_append]
      show cnSt (_ ++ [f N]) s = _
      rw [cnSt_snoc]
      cases h2 : f N == s
      · simp [h1, h2]
      · simp [h1, h2]

theorem ren_cnt {T T' : List (List Ins)} {σ : Nat → Nat} {k m : Int} (h : Rn T T' σ k m) (hn : ∀ l ∈ T, nst l 0 false < 0) (hn' : ∀ l ∈ T', nst l 0 false < 0) {al al' : Nat → Bool} (hal : Als T (evsT T 0) al) (hal' : Als T' (evsT T' 0) al') (s : List Int) : cnOu (outT al T) s ≤ cnOu (outT al' T') (renS T.length σ k m s) := by
  rw [outT_cnt, outT_cnt, cnSt_fil, cnSt_fil]
  refine ren_sub h _ _ fun n n' h1 h2 h3 h4 => ?_
  rw [Bool.and_eq_true] at h4 ⊢
  obtain ⟨h5, h6⟩ := h4
  have hs : stX T (evsT T 0) (exN (evsT T 0) n) = s := by simpa using h6
  refine ⟨(hal' n' h2).2 ?_, ?_⟩
  · rw [h3]
    exact alw_pi h hn hn' (exN_isEx _ n) ((hal n h1).1 h5)
  · rw [h3, stX_pi h (exN_isEx _ n), hs, beq_self_eq_true]

theorem stX_ren {T T' : List (List Ins)} {σ : Nat → Nat} {k m : Int} (h : Rn T T' σ k m) (E : List Evt) (x : Exe) : renS T.length σ k m (renS T.length σ k m (stX T E x)) = stX T E x := by
  unfold stX staL
  exact renS_inv h.r.inv h.hk h.hm _ _

/-- The outcomes change about, each as frequent. -/
theorem ren_out {T T' : List (List Ins)} {σ : Nat → Nat} {k m : Int} (h : Rn T T' σ k m) (hn : ∀ l ∈ T, nst l 0 false < 0) (hn' : ∀ l ∈ T', nst l 0 false < 0) {al al' : Nat → Bool} (hal : Als T (evsT T 0) al) (hal' : Als T' (evsT T' 0) al') (hf : KFit (3 * T.length + 3) (outT al T)) : ∀ p ∈ outT al T, cnOu (outT al' T') (renS T.length σ k m p.1) = p.2 := by
  intro p hp
  have h1 := ren_cnt h hn hn' hal hal' p.1
  have h2 := ren_cnt h.symm hn' hn hal' hal (renS T.length σ k m p.1)
  rw [h.r.len] at h2
  obtain ⟨n, _, _, e⟩ := (outT_mem al p.1).1 ⟨p, hp, rfl⟩
  rw [← e, stX_ren h, e] at h2
  rw [cnOu_at hf.srt hp] at h1 h2
  rw [← e] at h1 h2 ⊢
  omega

theorem ren_outLen {T T' : List (List Ins)} {σ : Nat → Nat} {k m : Int} (h : Rn T T' σ k m) (hn : ∀ l ∈ T, nst l 0 false < 0) (hn' : ∀ l ∈ T', nst l 0 false < 0) {al al' : Nat → Bool} (hal : Als T (evsT T 0) al) (hal' : Als T' (evsT T' 0) al') (hf : KFit (3 * T.length + 3) (outT al T)) : (outT al T).length ≤ (outT al' T').length := by
  have := nodup_leA (l := ((outT al T).map (·.1)).map (renS T.length σ k m)) (m := (outT al' T').map (·.1)) ?_ ?_
  · simpa using this
  · refine nodup_map_on (fun a ha b hb e => ?_) (List.pairwise_map.2 (srt_dis hf.srt))
    obtain ⟨p, hp, rfl⟩ := List.mem_map.1 ha
    obtain ⟨q, hq, rfl⟩ := List.mem_map.1 hb
    obtain ⟨n, _, _, e1⟩ := (outT_mem al p.1).1 ⟨p, hp, rfl⟩
    obtain ⟨n', _, _, e2⟩ := (outT_mem al q.1).1 ⟨q, hq, rfl⟩
    rw [← e1, ← e2] at e ⊢
    have := congrArg (renS T.length σ k m) e
    rw [stX_ren h, stX_ren h] at this
    exact this
  · intro s hs
    obtain ⟨s0, hs0, rfl⟩ := List.mem_map.1 hs
    obtain ⟨p, hp, rfl⟩ := List.mem_map.1 hs0
    have h1 := ren_out h hn hn' hal hal' hf p hp
    obtain ⟨q, hq, e⟩ := cnOu_pos (K := outT al' T') (t := renS T.length σ k m p.1) (by rw [h1]; exact hf.pos p hp)
    exact List.mem_map.2 ⟨q, hq, e⟩

end Go.Proofs.Ytomijmikkbhgmab
