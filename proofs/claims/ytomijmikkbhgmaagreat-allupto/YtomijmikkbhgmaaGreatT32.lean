import Derived.Test.YtomijmikkbhgmaaGreatT31
import Derived.Deep.CutRange
import Derived.Test.YtomijmikkbhgmaaGreatT4
namespace Go.Proofs.YtomijmikkbhgmaaGreat
open Go.RowKit

theorem own_some {w : World} {base size n : Nat} {e : TypeId} {v : Value} {xs : List Value} (h : w.ownsRow base e size v n xs) (hn : 0 < n) : ∃ g cap, v = .slice (some ⟨g, 0, none⟩) n cap := by
  rcases h.2 with ⟨_, h0⟩ | ⟨g, cap, _, hv, _⟩
  · omega
  · exact ⟨g, cap, hv⟩

theorem outV_set (A : List (Value × (List Int × Nat))) (i : Nat) (q : Value × (List Int × Nat)) (hi : i < A.length) : ((A.flatMap outV).set (i * 2) q.1).set (i * 2 + 1) (.int .i64 q.2.2) = (A.set i q).flatMap outV := by
  induction A generalizing i with
  | nil => simp at hi
  | cons a A ih =>
    cases i with
    | zero => simp [outV]
    | succ i =>
      have := ih i (by simpa using hi)
      rw [List.set_cons_succ, List.flatMap_cons, List.flatMap_cons, ← this, show (i + 1) * 2 = i * 2 + 2 by omega]
      simp [outV]
theorem outV_set1 (A : List (Value × (List Int × Nat))) (i : Nat) (q : Value × (List Int × Nat)) (n : Nat) (hq : A[i]? = some q) : (A.flatMap outV).set (i * 2 + 1) (.int .i64 n) = (A.set i (q.1, (q.2.1, n))).flatMap outV := by
  induction A generalizing i with
  | nil => simp at hq
  | cons a A ih =>
    cases i with
    | zero => simp at hq; subst hq; simp [outV]
    | succ i =>
      have := ih i (by simpa using hq)
      rw [List.set_cons_succ, List.flatMap_cons, List.flatMap_cons, ← this, show (i + 1) * 2 = i * 2 + 2 by omega]
      simp [outV]

theorem OutOwn.cells {w0 wr : World} {g n cap : Nat} {A : List (Value × (List Int × Nat))} (h : OutOwn w0 wr (.slice (some ⟨g, 0, none⟩) n cap) A) {i : Nat} {q : Value × (List Int × Nat)} (hq : A[i]? = some q) : wr.cell? ⟨g, i * 2, none⟩ = some q.1 ∧ wr.cell? ⟨g, i * 2 + 1, none⟩ = some (.int .i64 q.2.2) := by
  have c1 := h.own.cells (g := g) rfl (i * 2 + 0) q.1 (by rw [flat_get outV 2 outV_len A i 0 q hq (by omega)]; rfl)
  have c2 := h.own.cells (g := g) rfl (i * 2 + 1) (.int .i64 q.2.2) (by rw [flat_get outV 2 outV_len A i 1 q hq (by omega)]; rfl)
  rw [Addr.add_lit, Nat.zero_add] at c1 c2
  exact ⟨c1, c2⟩

theorem OutOwn.set {w0 wr : World} {g n cap : Nat} {A : List (Value × (List Int × Nat))} (h : OutOwn w0 wr (.slice (some ⟨g, 0, none⟩) n cap) A) (hn : A.length = n) {i : Nat} (hi : i < A.length) (q : Value × (List Int × Nat)) (hq : IntAt w0 q.1 q.2.1) : OutOwn w0 ((wr.setCell ⟨g, i * 2, none⟩ q.1).setCell ⟨g, i * 2 + 1, none⟩ (.int .i64 q.2.2)) (.slice (some ⟨g, 0, none⟩) n cap) (A.set i q) := by
  have h1 := h.own
  rw [hn] at h1
  have h2 := (h1.stored (i * 2) q.1).1
  have h3 := (h2.stored (i * 2 + 1) (.int .i64 q.2.2)).1
  rw [outV_set A i q hi] at h3
  refine ⟨by rw [List.length_set, hn]; exact h3, fun p hp => ?_⟩
  rcases List.mem_or_eq_of_mem_set hp with hp | hp
  · exact h.st p hp
  · rw [hp]; exact hq
theorem OutOwn.bump {w0 wr : World} {g n cap : Nat} {A : List (Value × (List Int × Nat))} (h : OutOwn w0 wr (.slice (some ⟨g, 0, none⟩) n cap) A) (hn : A.length = n) {i : Nat} {q : Value × (List Int × Nat)} (hq : A[i]? = some q) (m : Nat) : OutOwn w0 (wr.setCell ⟨g, i * 2 + 1, none⟩ (.int .i64 m)) (.slice (some ⟨g, 0, none⟩) n cap) (A.set i (q.1, (q.2.1, m))) := by
  have h1 := h.own
  rw [hn] at h1
  have h3 := (h1.stored (i * 2 + 1) (.int .i64 m)).1
  rw [outV_set1 A i q m hq] at h3
  refine ⟨by rw [List.length_set, hn]; exact h3, fun p hp => ?_⟩
  rcases List.mem_or_eq_of_mem_set hp with hp | hp
  · exact h.st p hp
  · rw [hp]; exact h.st q (List.mem_of_getElem? hq)
theorem OutOwn.keep {w0 wr w' : World} {V : Value} {A : List (Value × (List Int × Nat))} (h : OutOwn w0 wr V A) (hb : Below wr.heap.size wr w') : OutOwn w0 w' V A := ⟨own_keep h.own hb, h.st⟩

/-- A list of outcomes while what stands behind a place is shifted. -/
def shf {α : Type} (K : List α) (z : α) (i : Nat) : List α := (K ++ [z]).take (i + 1) ++ K.drop i
theorem shf_start {α : Type} (K : List α) (z : α) : shf K z K.length = K ++ [z] := by
  unfold shf
  rw [List.take_of_length_le (by simp), List.drop_length, List.append_nil]
theorem shf_len {α : Type} (K : List α) (z : α) {i : Nat} (hi : i ≤ K.length) : (shf K z i).length = K.length + 1 := by
  unfold shf
  rw [List.length_append, List.length_take, List.length_drop, List.length_append]
  simp; omega
theorem shf_get {α : Type} {K : List α} {z : α} {i : Nat} (hi : i < K.length) : (shf K z (i + 1))[i]? = K[i]? := by
  unfold shf
  rw [List.getElem?_append_left (by rw [List.length_take, List.length_append]; simp; omega), List.getElem?_take_of_lt (by omega), List.getElem?_append_left hi]
theorem shf_step {α : Type} {K : List α} {z : α} {i : Nat} {q : α} (hq : K[i]? = some q) : (shf K z (i + 1)).set (i + 1) q = shf K z i := by
  have hi : i < K.length := (List.getElem?_eq_some_iff.1 hq).1
  apply List.ext_getElem?
  intro j
  rw [List.getElem?_set]
  have hl := shf_len K z (i := i + 1) (by omega)
  have hl2 := shf_len K z (i := i) (by omega)
  have get : ∀ (i j : Nat), i ≤ K.length → (shf K z i)[j]? = if j ≤ i then (K ++ [z])[j]? else K[j - 1]? := by
    intro i j hi
    unfold shf
    by_cases h : j ≤ i
    · rw [if_pos h, List.getElem?_append_left (by rw [List.length_take, List.length_append]; simp; omega), List.getElem?_take_of_lt (by omega)]
    · rw [if_neg h, List.getElem?_append_right (by rw [List.length_take, List.length_append]; simp; omega), List.getElem?_drop, List.length_take, List.length_append]
      congr 1
      simp; omega
  rw [get (i + 1) j (by omega), get i j (by omega)]
  by_cases h : i + 1 = j
  · subst h
    rw [if_pos rfl, if_pos (by rw [hl]; omega), if_neg (by omega), Nat.add_sub_cancel, hq]
  · rw [if_neg h]
    by_cases h2 : j ≤ i
    · rw [if_pos (by omega), if_pos h2]
    · rw [if_neg (by omega), if_neg h2]
theorem shf_done {α : Type} (K : List α) (z q : α) {i : Nat} (hi : i ≤ K.length) : (shf K z i).set i q = K.take i ++ q :: K.drop i := by
  unfold shf
  rw [List.set_append_left _ _ (by rw [List.length_take, List.length_append]; simp; omega), List.take_add_one]
  have h1 : (K ++ [z]).take i = K.take i := List.take_append_of_le_length hi
  have h2 : (K.take i).length = i := by rw [List.length_take]; omega
  obtain ⟨y, hy⟩ : ∃ y, (K ++ [z])[i]? = some y := ⟨_, List.getElem?_eq_getElem (by simp; omega)⟩
  rw [h1, hy, List.set_append_right _ _ (by omega), h2, Nat.sub_self]
  simp

theorem outK_snoc (L : List (List Int)) (s : List Int) : outK (L ++ [s]) = insO (outK L) s := by unfold outK; rw [List.foldl_append]; rfl

theorem insO_new {K : List (List Int × Nat)} (hs : SrtK K) {s : List Int} (h : ∀ p, K[posK K s]? = some p → ltL s p.1 = true) : insO K s = K.take (posK K s) ++ (s, 1) :: K.drop (posK K s) := by
  have hsp := insO_split (K.take (posK K s)) (K.drop (posK K s)) s (fun p hp => by
    obtain ⟨k, hk⟩ := List.mem_iff_getElem?.1 hp
    have hkl : k < posK K s := by have := (List.getElem?_eq_some_iff.1 hk).1; rw [List.length_take] at this; omega
    rw [List.getElem?_take_of_lt hkl] at hk
    exact posK_low hkl hk) (fun p hp => by
    rw [List.head?_drop] at hp
    exact posK_high hs (Nat.le_refl _) hp)
  rw [List.take_append_drop] at hsp
  rw [hsp]
  congr 1
  cases hd : K.drop (posK K s) with
  | nil => rfl
  | cons p B =>
    have hp : K[posK K s]? = some p := by rw [← List.head?_drop, hd]; rfl
    rw [tailO, if_pos (h p hp)]
theorem insO_old {K : List (List Int × Nat)} (hs : SrtK K) {s : List Int} {p : List Int × Nat} (hp : K[posK K s]? = some p) (h : ltL s p.1 = false) : insO K s = K.set (posK K s) (p.1, p.2 + 1) := by
  have hsp := insO_split (K.take (posK K s)) (K.drop (posK K s)) s (fun p hp => by
    obtain ⟨k, hk⟩ := List.mem_iff_getElem?.1 hp
    have hkl : k < posK K s := by have := (List.getElem?_eq_some_iff.1 hk).1; rw [List.length_take] at this; omega
    rw [List.getElem?_take_of_lt hkl] at hk
    exact posK_low hkl hk) (fun p hp => by
    rw [List.head?_drop] at hp
    exact posK_high hs (Nat.le_refl _) hp)
  rw [List.take_append_drop] at hsp
  have hlt : posK K s < K.length := (List.getElem?_eq_some_iff.1 hp).1
  rw [hsp, drop_cons hp, tailO, h, if_neg (by simp), List.set_eq_take_append_cons_drop, if_pos hlt]

end Go.Proofs.YtomijmikkbhgmaaGreat

namespace Go.Proofs.YtomijmikkbhgmaaGreat
open Go.RowKit

theorem outK_le {L : List (List Int)} {n : Nat} (hL : ∀ s ∈ L, s.length = n) {p : List Int × Nat} (hp : p ∈ outK L) : p.2 ≤ L.length := by
  obtain ⟨s1, _, _, s4⟩ := outK_spec hL
  rw [← cnOu_at s1 hp, s4]
  exact cnSt_le _ _

def zOut : Value × (List Int × Nat) := (.slice none 0 0, ([], 0))

/-- The values of a list of outcomes are those of different cases below k. -/
def NodU (U : Nat → Value) (k : Nat) (K : List (Value × (List Int × Nat))) : Prop := ∃ idx : List Nat, K.map (·.1) = idx.map U ∧ idx.Nodup ∧ ∀ i ∈ idx, i < k
theorem NodU.nil (U : Nat → Value) : NodU U 0 [] := ⟨[], rfl, List.nodup_nil, fun i h => by cases h⟩
theorem NodU.set {U : Nat → Value} {k : Nat} {K : List (Value × (List Int × Nat))} (h : NodU U k K) {P : Nat} {q : Value × (List Int × Nat)} (hq : K[P]? = some q) (r : List Int × Nat) : NodU U (k + 1) (K.set P (q.1, r)) := by
  obtain ⟨idx, h1, h2, h3⟩ := h
  refine ⟨idx, ?_, h2, fun i hi => by have := h3 i hi; omega⟩
  rw [← h1, List.map_set]
  apply List.ext_getElem?
  intro j
  rw [List.getElem?_set]
  by_cases hj : P = j
  · subst hj
    rw [if_pos rfl, if_pos (by rw [List.length_map]; exact (List.getElem?_eq_some_iff.1 hq).1), List.getElem?_map, hq]
    rfl
  · rw [if_neg hj]
theorem NodU.ins {U : Nat → Value} {k : Nat} {K : List (Value × (List Int × Nat))} (h : NodU U k K) (P : Nat) {v : Value} (hv : U k = v) (r : List Int × Nat) : NodU U (k + 1) (K.take P ++ (v, r) :: K.drop P) := by
  obtain ⟨idx, h1, h2, h3⟩ := h
  refine ⟨idx.take P ++ k :: idx.drop P, ?_, ?_, fun i hi => ?_⟩
  · rw [List.map_append, List.map_cons, List.map_take, List.map_drop, h1, List.map_append, List.map_cons, List.map_take, List.map_drop, hv]
  · rw [List.nodup_append, List.nodup_cons]
    refine ⟨h2.sublist (List.take_sublist _ _), ⟨fun hk => by have := h3 k (List.mem_of_mem_drop hk); omega, h2.sublist (List.drop_sublist _ _)⟩, fun a ha b hb e => ?_⟩
    rcases List.mem_cons.1 hb with q | q
    · have := h3 a (List.mem_of_mem_take ha); omega
    · rw [← List.take_append_drop P idx, List.nodup_append] at h2
      exact h2.2.2 a ha b q e
  · rcases List.mem_append.1 hi with q | q
    · have := h3 i (List.mem_of_mem_take q); omega
    · rcases List.mem_cons.1 q with q | q
      · omega
      · have := h3 i (List.mem_of_mem_drop q); omega

/-- Outcomes in a list of its own, each state in one too, no two in one block. -/
def OutF (B : Nat) (w : World) (V : Value) (P : List (List Int × Nat)) : Prop := ∃ K : List (Value × (List Int × Nat)), K.map (·.2) = P ∧ w.ownsRow B 77 2 V K.length (K.flatMap outV) ∧ (∀ q ∈ K, IntF B w q.1 q.2.1) ∧ ∀ (i j : Nat) (a z : Value × (List Int × Nat)) (g : Nat), i < j → K[i]? = some a → K[j]? = some z → a.1.ownBlock = some g → z.1.ownBlock ≠ some g
theorem OutF.at' {B : Nat} {w : World} {V : Value} {P : List (List Int × Nat)} (h : OutF B w V P) : OutAt w V P := by
  obtain ⟨K, h1, h2, h3, _⟩ := h
  have ho : OutOwn w w V K → OutAt w V P := fun h => by have := h.read (Below.refl _ _); rw [h1] at this; exact this
  rcases h2.2 with ⟨hv, hn⟩ | ⟨g, cap, cur, hv, hg, hh, q⟩
  · have h0 : K = [] := List.eq_nil_of_length_eq_zero hn
    subst h0
    rw [← h1]
    exact ⟨none, 0, 0, 0, hv, fun h => absurd rfl h, fun _ => ⟨rfl, rfl⟩, fun k x h => by simp at h⟩
  · refine ⟨_, g, 0, cap, by rw [hv, ← h1, List.length_map], fun _ => rfl, fun h => (by simp at h), fun k x hk => ?_⟩
    rw [← h1, List.getElem?_map] at hk
    cases hq : K[k]? with
    | none => rw [hq] at hk; simp at hk
    | some q =>
      rw [hq] at hk
      have hx : q.2 = x := by simpa using hk
      subst hx
      have c1 := h2.cells (g := g) (by rw [hv]; rfl) (k * 2 + 0) q.1 (by rw [flat_get outV 2 outV_len K k 0 q hq (by omega)]; rfl)
      have c2 := h2.cells (g := g) (by rw [hv]; rfl) (k * 2 + 1) (.int .i64 q.2.2) (by rw [flat_get outV 2 outV_len K k 1 q hq (by omega)]; rfl)
      rw [Addr.add_lit] at c1 c2
      exact ⟨q.1, by rw [Nat.add_zero] at c1; exact c1, by rw [Nat.add_assoc]; exact c2, (h3 q (List.mem_of_getElem? hq)).new.at'⟩
theorem OutF.less {B B' : Nat} {w : World} {V : Value} {P : List (List Int × Nat)} (h : OutF B w V P) (hb : B' ≤ B) : OutF B' w V P := by
  obtain ⟨K, h1, h2, h3, h4⟩ := h
  exact ⟨K, h1, own_base h2 hb, fun q hq => own_base (h3 q hq) hb, h4⟩

theorem intAt_same {w : World} {v : Value} {l l' : List Int} (h : IntAt w v l) (h' : IntAt w v l') : l = l' := by
  obtain ⟨ao, b, off, cap, hv, ha, _, hc⟩ := h
  obtain ⟨ao', b', off', cap', hv', ha', _, hc'⟩ := h'
  rw [hv] at hv'
  simp only [Value.slice.injEq] at hv'
  obtain ⟨rfl, hl, rfl⟩ := hv'
  apply List.ext_getElem?
  intro k
  by_cases hk : k < l.length
  · obtain ⟨x, hx⟩ := get_of_lt hk
    obtain ⟨y, hy⟩ := get_of_lt (l := l') (k := k) (by omega)
    have h1 := ha (ne_nil hk)
    have h2 := ha' (ne_nil (l := l') (k := k) (by omega))
    rw [h1] at h2
    cases h2
    have q1 := hc k x hx
    have q2 := hc' k y hy
    unfold IntC at q1 q2
    rw [q1] at q2
    cases q2
    rw [hx, hy]
  · rw [List.getElem?_eq_none (by omega), List.getElem?_eq_none (by omega)]

set_option maxRecDepth 20000 in
set_option maxHeartbeats 8000000 in
theorem outcomesOf_own (T : List (List Ins)) (c : List Atm) (hz : ((chk T c).1 == 0) = true) (al : Nat → Bool) (hal : Als T (evsT T 0) al) (vt v : Value) (w : World) (ht : ThrAt w vt T) (h : Ev4Cap w v (evsT T 0)) :
    Calls Tryz.prog 44 #[vt, v] w fun e w' => ∃ u, e = .returned u ∧ OutF w.heap.size w' u (outK (stsL al T (evsT T 0) (sizeN (evsT T 0)))) ∧ Below w.heap.size w w' := by
  have HCS : Hid (Calls Tryz.prog 85 #[vt, v] w fun e w' => ∃ u, e = .returned u ∧ CasAp T (evsT T 0) w.heap.size w' u (casN al (sizeN (evsT T 0))) ∧ Below w.heap.size w w') := cases_own T c hz al hal vt v w ht h
  have hT4 := (fits_of hz).short.t4
  have hN := chk_many_no hz
  have hC2 : (casN al (sizeN (evsT T 0))).length ≤ 2000 := Nat.le_trans (casN_len _ _) hN
  generalize hst : (fun n => stX T (evsT T 0) (exN (evsT T 0) n)) = st
  have hst' : ∀ n, stX T (evsT T 0) (exN (evsT T 0) n) = st n := fun n => by rw [← hst]
  have HSS : Hid (stsL al T (evsT T 0) (sizeN (evsT T 0)) = (casN al (sizeN (evsT T 0))).map st) := by show _ = _; unfold stsL; rw [casN_states, hst]
  have HSL : Hid (∀ n, (st n).length = 3 * T.length + 3) := fun n => by rw [← hst']; exact stX_len _ _ _
  have HKN : Hid (∀ w' b off n, CasC T (evsT T 0) w.heap.size w' b off n → ∃ vf vo u, w'.cell? ⟨b, off, none⟩ = some (.int .i64 n) ∧ w'.cell? ⟨b, off + 1, none⟩ = some vf ∧ w'.cell? ⟨b, off + 2, none⟩ = some vo ∧ w'.cell? ⟨b, off + 3, none⟩ = some u ∧ (∃ a1 n1 c1, vf = .slice a1 n1 c1) ∧ (∃ a1 n1 c1, vo = .slice a1 n1 c1) ∧ (∃ a1 c1, u = .slice a1 (st n).length c1) ∧ IntAt w' u (st n) ∧ IntF w.heap.size w' u (st n)) := fun w' b off n ⟨vf, vo, u, h1, h2, h3, h4, h56⟩ => by
    obtain ⟨h5, h6⟩ := h56.now
    have h7 := (h56 w' (Nat.le_refl _) (fun _ _ _ => rfl)).2
    rw [hst'] at h7
    obtain ⟨a1, c1, e1⟩ := h5.f.form
    obtain ⟨a2, b2, o2, c2, hs2⟩ := h5.o
    rw [hst'] at h6
    obtain ⟨a3, c3, e3⟩ := h6.form
    exact ⟨vf, vo, u, h1, h2, h3, h4, ⟨a1, _, c1, e1⟩, ⟨a2, _, c2, hs2.hv⟩, ⟨a3, c3, e3⟩, h6, h7⟩
  obtain ⟨_, aoT, bT, offT, capT, hvT, _⟩ := ht
  obtain ⟨ao, b, off, cap, ⟨hv, _, _, _⟩, _⟩ := h
  subst hv hvT
  clear hz hal hN hst hst'
  generalize evsT T 0 = E at *
  generalize stsL al T E (sizeN E) = SS at *
  generalize casN al (sizeN E) = C at *
  have HSLL : Hid (∀ k, ∀ s ∈ (C.map st).take k, s.length = 3 * T.length + 3) := fun k s hs => by
    obtain ⟨n, _, rfl⟩ := List.mem_map.1 (List.mem_of_mem_take hs)
    exact HSL.out n
  have HTK : Hid (∀ k n, C[k]? = some n → (C.map st).take (k + 1) = (C.map st).take k ++ [st n]) := fun k n hk => by rw [List.take_add_one, List.getElem?_map, hk]; rfl
  have HSP : Hid (∀ k, SrtK (outK ((C.map st).take k)) ∧ LenK (3 * T.length + 3) (outK ((C.map st).take k)) ∧ (outK ((C.map st).take k)).length ≤ 2000 ∧ ∀ p ∈ outK ((C.map st).take k), p.2 ≤ 2000) := fun k => by
    obtain ⟨s1, s2, _, _⟩ := outK_spec (HSLL.out k)
    have hl : ((C.map st).take k).length ≤ 2000 := by rw [List.length_take, List.length_map]; omega
    exact ⟨s1, s2, Nat.le_trans (outK_len _) hl, fun p hp => Nat.le_trans (outK_le (HSLL.out k) hp) hl⟩
  obtain ⟨i1, hi, hz0, hz1, hz3⟩ := info_parts Tryz.infoOutc
  have HI : Hid (Tryz.prog.info? 77 = some i1 ∧ i1.zero = some (.agg #[.slice none 0 0, .int .i64 0]) ∧ i1.size = 2 ∧ i1.bytes = 32) := ⟨hi, hz0, hz1, hz3⟩
  clear hi hz0 hz1 hz3
  go_enter Tryz.func44, Tryz.ntmps44
  go_wp2_with fail
  refine HCS.out.mono ?_
  rintro e w2 ⟨uc, rfl, hcs, hb2⟩
  obtain ⟨aoC, bC, offC, capC, ⟨hvC, haC, _, hcC⟩, hapC⟩ := hcs
  subst hvC
  have HCC : Hid (∀ k n, C[k]? = some n → CasC T E w.heap.size w2 bC (offC + k * 4) n) := hcC
  obtain ⟨U, hU⟩ : ∃ U : Nat → Value, ∀ k, U k = (w2.cell? ⟨bC, offC + k * 4 + 3, none⟩).getD (.slice none 0 0) := ⟨_, fun _ => rfl⟩
  have HUF : Hid ((∀ k n, C[k]? = some n → w2.cell? ⟨bC, offC + k * 4 + 3, none⟩ = some (U k) ∧ IntF w.heap.size w2 (U k) (st n)) ∧ ∀ (i j g : Nat), i < j → j < C.length → (U i).ownBlock = some g → (U j).ownBlock ≠ some g) := by
    have h1 : ∀ k n, C[k]? = some n → w2.cell? ⟨bC, offC + k * 4 + 3, none⟩ = some (U k) ∧ IntF w.heap.size w2 (U k) (st n) := fun k n hk => by
      obtain ⟨_, _, us, _, _, _, c3, _, _, _, _, hf⟩ := HKN.out _ _ _ _ (HCC.out k n hk)
      have : U k = us := by rw [hU, c3]; rfl
      rw [this]
      exact ⟨c3, hf⟩
    refine ⟨h1, fun i j g hij hj hi => ?_⟩
    obtain ⟨n, hn⟩ := get_of_lt (l := C) (k := i) (by omega)
    obtain ⟨m, hm⟩ := get_of_lt hj
    exact hapC i j (U i) (U j) g hij hj (h1 i n hn).1 (h1 j m hm).1 hi
  clear hcC HCS hapC hU
  go_wp2_with fail
  go_loopw [5, 14] (fun u i wr => ∃ (k : Nat) (K : List (Value × (List Int × Nat))), k ≤ C.length ∧ i = .int .i64 k ∧ (∃ ao cap, u = .slice ao K.length cap) ∧ Hid (OutOwn w2 wr u K ∧ K.map (·.2) = outK ((C.map st).take k)) ∧ Hid (NodU U k K) ∧ Below w2.heap.size w2 wr) (fun _ i _ => C.length - (intOf i).toNat)
  case atStart => exact ⟨0, [], Nat.zero_le _, rfl, ⟨none, 0, rfl⟩, ⟨OutOwn.nil _ _, rfl⟩, NodU.nil _, Below.refl _ _⟩
  case round =>
    obtain ⟨k, K, hk, rfl, ⟨aoU, capU, rfl⟩, hOW, HND, hb⟩ := hrel
    have hKlen : K.length ≤ 2000 := by have h1 := congrArg List.length hOW.out.2; rw [List.length_map] at h1; have h2 := (HSP.out k).2.2.1; omega
    by_cases hlt : k < C.length
    · obtain ⟨n, hn⟩ := get_of_lt hlt
      obtain rfl := haC (ne_nil hlt)
      obtain ⟨vf, vo, us, c0, c1, c2, c3, ⟨a1, n1, p1, rfl⟩, ⟨a2, n2, p2, rfl⟩, ⟨a3, p3, rfl⟩, hus, _⟩ := HKN.out _ _ _ _ (HCC.out k n hn)
      have HUK : Hid (U k = .slice a3 (st n).length p3) := by have := (HUF.out.1 k n hn).1; unfold Hid; rw [c3] at this; exact (Option.some.inj this).symm
      have HUS : Hid (IntAt w2 (.slice a3 (st n).length p3) (st n)) := hus
      have htk := HTK.out k n hn
      have hsl := HSL.out n
      obtain ⟨hsr, hln, _, hcn⟩ := HSP.out k
      have HPF : Hid (∀ w', Below wr.heap.size wr w' → Calls Tryz.prog 86 #[.slice aoU K.length capU, .slice a3 (st n).length p3] w' fun e w'' => e = .returned (.int .i64 (posK (K.map (·.2)) (st n) : Nat)) ∧ Below w'.heap.size w' w'') := fun w' hb' => placeFor_any (3 * T.length + 3) (by omega) (K.map (·.2)) (by rw [List.length_map]; exact hKlen) (by rw [hOW.out.2]; exact hsr) (by rw [hOW.out.2]; exact hln) (st n) hsl _ _ w' ((hOW.out.1.keep hb').read (below_more hb hb')) (hus.keep (below_more hb hb'))
      have HIL : Hid (∀ q w', q ∈ K → Below wr.heap.size wr w' → Calls Tryz.prog 87 #[.slice a3 (st n).length p3, q.1] w' fun e w'' => e = .returned (.bool (ltL (st n) q.2.1)) ∧ Below w'.heap.size w' w'') := fun q w' hq hb' => by
        have hql : q.2.1.length = 3 * T.length + 3 := hln q.2 (by rw [← hOW.out.2]; exact List.mem_map_of_mem hq)
        exact isLess_any (st n) q.2.1 (by omega) (by omega) _ _ w' (hus.keep (below_more hb hb')) ((hOW.out.1.st q hq).keep (below_more hb hb'))
      have hPle : posK (K.map (·.2)) (st n) ≤ K.length := by have := posK_le (K.map (·.2)) (st n); rw [List.length_map] at this; exact this
      have HNEW : Hid ((∀ q, K[posK (K.map (·.2)) (st n)]? = some q → ltL (st n) q.2.1 = true) → (K.take (posK (K.map (·.2)) (st n)) ++ (Value.slice a3 (st n).length p3, (st n, 1)) :: K.drop (posK (K.map (·.2)) (st n))).map (·.2) = outK ((C.map st).take (k + 1))) := fun hq => by
        rw [htk, outK_snoc, ← hOW.out.2, insO_new (by rw [hOW.out.2]; exact hsr) (fun p hp => by
          rw [List.getElem?_map] at hp
          cases hK : K[posK (K.map (·.2)) (st n)]? with
          | none => rw [hK] at hp; simp at hp
          | some q => rw [hK] at hp; have e : q.2 = p := by simpa using hp
                      rw [← e]; exact hq q hK), List.map_append, List.map_cons, List.map_take, List.map_drop]
      have HOLD : Hid (∀ q, K[posK (K.map (·.2)) (st n)]? = some q → ltL (st n) q.2.1 = false → (K.set (posK (K.map (·.2)) (st n)) (q.1, (q.2.1, q.2.2 + 1))).map (·.2) = outK ((C.map st).take (k + 1))) := fun q hq hl => by
        rw [htk, outK_snoc, ← hOW.out.2, insO_old (p := q.2) (by rw [hOW.out.2]; exact hsr) (by rw [List.getElem?_map, hq]; rfl) hl, List.map_set]
      have HCB : Hid (∀ q ∈ K, q.2.2 ≤ 2000) := fun q hq => hcn q.2 (by rw [← hOW.out.2]; exact List.mem_map_of_mem hq)
      have HOW : Hid (OutOwn w2 wr (.slice aoU K.length capU) K) := hOW.out.1
      generalize posK (K.map (·.2)) (st n) = P at HPF HNEW HOLD hPle
      have d0 := keep_cell hb c0
      have d1 := keep_cell hb c1
      have d2 := keep_cell hb c2
      have d3 := keep_cell hb c3
      have hkI : (k : Int) < (C.length : Int) := by omega
      generalize hLn : (st n).length = ln at *
      clear hus htk hsl hsr hln hcn hOW c0 c1 c2 c3 hn
      go_wp2_with fail
      have hba := below_alloc wr (.cells #[.int .i64 n, .slice a1 n1 p1, .slice a2 n2 p2, .slice a3 ln p3] 96)
      refine (HPF.out _ hba).mono ?_
      rintro e w4 ⟨rfl, hb4⟩
      have b3 := keep_cell hb4 (b := wr.heap.size) (off := 3) (u := .slice a3 ln p3) (by simp)
      have hb14 := below_more hba hb4
      have hb24 := below_more hb hb14
      have HOW4 : Hid (OutOwn w2 w4 (.slice aoU K.length capU) K) := HOW.out.keep hb14
      have HIL4 : Hid (∀ q w', q ∈ K → Below w4.heap.size w4 w' → Calls Tryz.prog 87 #[.slice a3 ln p3, q.1] w' fun e w'' => e = .returned (.bool (ltL (st n) q.2.1)) ∧ Below w'.heap.size w' w'') := fun q w' hq hb' => HIL.out q w' hq (below_more hb14 hb')
      have hbxl : wr.heap.size < w4.heap.size := World.block_lt_of_cell? _ _ b3
      have hVB : ∀ g, (Value.slice aoU K.length capU).ownBlock = some g → g < wr.heap.size := fun g hg => (HOW.out.own.lt g hg).2
      clear HPF HIL HOW d0 d1 d2 d3 hb4 hba hb hLn
      generalize wr.heap.size = Bx at b3 hbxl hb14 hVB ⊢
      clear hb14
      go_upto_region 6 with fail
      go_cut [36] from 15 to 71 (fun bb wc => (∃ inc : Bool, bb = .bool inc ∧ Hid (if inc then ∃ q, K[P]? = some q ∧ ltL (st n) q.2.1 = false else ∀ q, K[P]? = some q → ltL (st n) q.2.1 = true)) ∧ Below w4.heap.size w4 wc)
      case first =>
        by_cases hpl : P < K.length
        · obtain ⟨q, hq⟩ := get_of_lt hpl
          obtain ⟨g, cap', hg⟩ := own_some HOW4.out.own (by omega)
          simp only [Value.slice.injEq] at hg
          obtain ⟨rfl, _, rfl⟩ := hg
          obtain ⟨e0, _⟩ := HOW4.out.cells hq
          obtain ⟨aq, cq, hfq⟩ := (HOW4.out.st q (List.mem_of_getElem? hq)).form
          have HI1 : Hid (∀ w', Below w4.heap.size w4 w' → Calls Tryz.prog 87 #[.slice a3 ln p3, .slice aq q.2.1.length cq] w' fun e w'' => e = .returned (.bool (ltL (st n) q.2.1)) ∧ Below w'.heap.size w' w'') := fun w' hb' => by have := HIL4.out q w' (List.mem_of_getElem? hq) hb'; rw [hfq] at this; exact this
          rw [hfq] at e0
          have HR0 : Hid (K[P]? = some q) := hq
          have HLB : Hid (ltL (st n) q.2.1 = ltL (st n) q.2.1) := rfl
          generalize hlb : ltL (st n) q.2.1 = lb at HI1
          have HLB2 : Hid (ltL (st n) q.2.1 = lb) := hlb
          have hpI : (P : Int) < (K.length : Int) := by omega
          have g0 := grown_cell b3
          have g1 := grown_cell e0
          have hnw := grw_some w4
          clear hq hfq hlb HLB b3 e0
          cases lb
          · refine wp_region_grown (by kernel_rfl) (by kernel_rfl) ?_
            repeat (go_big_quiet_step ((go_at_call 87; exact grown_call (HI1.out _ (Grw.low _)))))
            refine wpQuiet_nil ?_
            intro w7 hw7
            obtain ⟨⟨w7', hb7⟩, rfl⟩ := hw7
            clear g0 g1
            go_wp2_with fail
            go_meet
            case rel => exact ⟨⟨true, rfl, q, HR0.out, HLB2.out⟩, hb7⟩
          · refine wp_region_grown (by kernel_rfl) (by kernel_rfl) ?_
            repeat (go_big_quiet_step ((go_at_call 87; exact grown_call (HI1.out _ (Grw.low _)))))
            refine wpQuiet_nil ?_
            intro w7 hw7
            obtain ⟨⟨w7', hb7⟩, rfl⟩ := hw7
            clear g0 g1
            go_wp2_with fail
            go_meet
            case rel => exact ⟨⟨false, rfl, fun q' hq' => by rw [HR0.out] at hq'; cases hq'; exact HLB2.out⟩, hb7⟩
        · have hpI : (K.length : Int) ≤ (P : Int) := by omega
          have HR0 : Hid (K[P]? = none) := List.getElem?_eq_none (by omega)
          have hnw := grw_some w4
          refine wp_region_grown (by kernel_rfl) (by kernel_rfl) ?_
          repeat (go_big_quiet_step (fail))
          refine wpQuiet_nil ?_
          intro w7 hw7
          obtain ⟨⟨w7', hb7⟩, rfl⟩ := hw7
          go_wp2_with fail
          go_meet
          case rel => exact ⟨⟨false, rfl, fun q' hq' => by rw [HR0.out] at hq'; cases hq'⟩, hb7⟩
      case rest =>
        obtain ⟨⟨inc, rfl, hI⟩, hbc⟩ := hcut
        have HOWc : Hid (OutOwn w2 wc (.slice aoU K.length capU) K) := HOW4.out.keep hbc
        have b4 := keep_cell hbc b3
        have hb2c := below_more hb24 hbc
        have hszc := hb2c.size
        have hbxc : Bx < wc.heap.size := Nat.lt_of_lt_of_le hbxl hbc.size
        clear b3 HOW4 hb24 hbc HIL4
        cases inc
        · have HNW := HNEW.out hI.out
          have HNW2 : Hid ((K.take P ++ (Value.slice a3 ln p3, (st n, 1)) :: K.drop P).map (·.2) = outK ((C.map st).take (k + 1))) := HNW
          have HOWo : Hid (wc.ownsRow w2.heap.size 77 2 (.slice aoU K.length capU) K.length (K.flatMap outV)) := HOWc.out.own
          clear HNW HNEW HOLD hI
          go_wp2_with (at_builtin; refine append_new _ rfl _ _ 55 rfl w2.heap.size 77 i1 (.agg #[.slice none 0 0, .int .i64 0]) 2 32 Tryz.underlying55 HI.out.1 HI.out.2.1 HI.out.2.2.1 HI.out.2.2.2 rfl (by decide) (.slice aoU K.length capU) K.length (K.flatMap outV) rfl (HOWo.out.alloc _) (some ⟨wc.heap.size, 0, none⟩) 1 1 [.slice none 0 0, .int .i64 0] rfl (fun h => by cases h) rfl (fun ad had => by cases had; exact new_many rfl) (by simp [Value.oneCell']) (by unfold maxLen; omega) (by omega) (by simp; omega) ?_)
          intro V8 w8 hown8 hgrow8 hap8
          obtain ⟨g, cap8, hf8⟩ := own_some hown8 (by omega)
          subst hf8
          have HO8 : Hid (OutOwn w2 w8 (.slice (some ⟨g, 0, none⟩) (K.length + 1) cap8) (shf K zOut K.length)) := by
            show OutOwn _ _ _ _
            rw [shf_start]
            exact HOWc.out.snoc (s := []) (n := 0) (intCap_nil _).at' hown8
          have HB8 : Hid (Below w2.heap.size w2 w8) := Below.grown (hb2c.alloc hszc _) hgrow8 (by simp; omega) (fun kk e => (HOWo.out.lt kk e).1)
          have hgB : g ≠ Bx := fun e => by
            rcases hap8 g rfl with h | h
            · have := hVB g h; omega
            · first | omega | (simp at h; omega) | (rw [World.size_alloc] at h; omega)
          have b8 : w8.cell? ⟨Bx, 3, none⟩ = some (.slice a3 ln p3) := by
            refine cell_heap (hgrow8.block Bx (by simp; omega) (fun e => ?_)) (keep_cell (below_alloc wc _) b4)
            have := hVB Bx e.symm; omega
          have hBge : w2.heap.size ≤ g := (hown8.lt g rfl).1
          clear hown8 hgrow8 hap8 HOWo HOWc b4 hVB
          obtain ⟨m1, hm1⟩ : ∃ m1, m1 = K.length + 1 := ⟨_, rfl⟩
          rw [← hm1] at HO8 ⊢
          have hmI : (m1 : Int) - 1 = (K.length : Int) := by omega
          have hmw : IntKind.i64.wrap (K.length : Int) = (K.length : Int) := by rw [IntKind.wrap_i64]; omega
          have HM1 : Hid (m1 = K.length + 1) := hm1
          clear hm1
          go_wp2_with fail
          go_loopw [9] (fun i wd => ∃ j : Nat, P ≤ j ∧ j ≤ K.length ∧ i = .int .i64 j ∧ Hid (OutOwn w2 wd (.slice (some ⟨g, 0, none⟩) m1 cap8) (shf K zOut j)) ∧ wd.cell? ⟨Bx, 3, none⟩ = some (.slice a3 ln p3) ∧ Below w2.heap.size w2 wd) (fun i _ => (intOf i).toNat)
          case atStart => exact ⟨K.length, hPle, Nat.le_refl _, rfl, HO8.out, b8, HB8.out⟩
          case round =>
            clear HO8 HB8 b8
            obtain ⟨j, hj1, hj2, rfl, hO, bx, hbd⟩ := hrel
            by_cases hpj : P < j
            · obtain ⟨i, rfl⟩ : ∃ i, j = i + 1 := ⟨j - 1, by omega⟩
              obtain ⟨q, hq⟩ := get_of_lt (l := K) (k := i) (by omega)
              have hm := HM1.out
              obtain ⟨e0, e1⟩ := hO.out.cells (i := i) (q := q) (by rw [shf_get (by omega)]; exact hq)
              obtain ⟨q', hq'⟩ := get_of_lt (l := shf K zOut (i + 1)) (k := i + 1) (by rw [shf_len K zOut (by omega)]; omega)
              obtain ⟨e2, e3⟩ := hO.out.cells hq'
              have hsl := shf_len K zOut (i := i + 1) (by omega)
              have hown1 : wr.ownsRow w2.heap.size 77 2 (.slice (some ⟨g, 0, none⟩) m1 cap8) m1 ((shf K zOut (i + 1)).flatMap outV) := by have := hO.out.own; rw [hsl, ← hm] at this; exact this
              have z0 := hown1.frozenAt ((i + 1) * 2)
              have z1 := hown1.frozenAt ((i + 1) * 2 + 1)
              have hst0 := hO.out.st q (List.mem_of_getElem? (i := i) (by rw [shf_get (by omega)]; exact hq))
              have HS : Hid (OutOwn w2 ((wr.setCell ⟨g, (i + 1) * 2, none⟩ q.1).setCell ⟨g, (i + 1) * 2 + 1, none⟩ (.int .i64 q.2.2)) (.slice (some ⟨g, 0, none⟩) m1 cap8) (shf K zOut i)) := by
                have := hO.out.set (by rw [hsl, hm]) (i := i + 1) (by rw [hsl]; omega) q hst0
                rw [shf_step hq] at this
                exact this
              obtain ⟨aq, cq, hfq⟩ := hst0.form
              rw [hfq] at e0 HS
              have hpI : (P : Int) < ((i + 1 : Nat) : Int) := by omega
              have hiI : ((i + 1 : Nat) : Int) - 1 = (i : Int) := by omega
              have hiw : IntKind.i64.wrap (i : Int) = (i : Int) := by rw [IntKind.wrap_i64]; omega
              have hi1 : ((i + 1 : Nat) : Int) < (m1 : Int) := by omega
              have hi2 : (i : Int) < (m1 : Int) := by omega
              generalize hI1 : i + 1 = I at *
              clear hown1 hst0 hfq hq hq' hO hsl
              go_wp2_with fail
              go_roundw
              case measure => simp [intOf]; omega
              case rel => exact ⟨i, by omega, by omega, rfl, HS.out, by simp [go_sem, bx], (hbd.setCell hBge _).setCell hBge _⟩
            · have hjP : j = P := by omega
              subst hjP
              have hm := HM1.out
              have hsl := shf_len K zOut (i := j) hj2
              obtain ⟨q', hq'⟩ := get_of_lt (l := shf K zOut j) (k := j) (by rw [hsl]; omega)
              obtain ⟨e2, e3⟩ := hO.out.cells hq'
              have hown1 : wr.ownsRow w2.heap.size 77 2 (.slice (some ⟨g, 0, none⟩) m1 cap8) m1 ((shf K zOut j).flatMap outV) := by have := hO.out.own; rw [hsl, ← hm] at this; exact this
              have z0 := hown1.frozenAt (j * 2)
              have z1 := hown1.frozenAt (j * 2 + 1)
              have HS : Hid (OutOwn w2 ((wr.setCell ⟨g, j * 2, none⟩ (.slice a3 ln p3)).setCell ⟨g, j * 2 + 1, none⟩ (.int .i64 1)) (.slice (some ⟨g, 0, none⟩) m1 cap8) (K.take j ++ (Value.slice a3 ln p3, (st n, 1)) :: K.drop j)) := by
                have := hO.out.set (by rw [hsl, hm]) (i := j) (by rw [hsl]; omega) (Value.slice a3 ln p3, (st n, 1)) HUS.out
                rw [shf_done K zOut _ hj2] at this
                exact this
              have HKL : Hid ((K.take j ++ (Value.slice a3 ln p3, (st n, 1)) :: K.drop j).length = m1) := by
                show _ = _
                rw [List.length_append, List.length_cons, List.length_take, List.length_drop]; omega
              have hjI : (j : Int) < (m1 : Int) := by omega
              clear hown1 hq' hO hsl
              go_wp2_with fail
              go_roundw
              case measure => simp [intOf]; omega
              case rel => exact ⟨k + 1, _, by omega, by go_num, ⟨some ⟨g, 0, none⟩, cap8, by rw [HKL.out]⟩, ⟨HS.out, HNW2.out⟩, HND.out.ins j HUK.out _, (hbd.setCell hBge _).setCell hBge _⟩
        · obtain ⟨q, hq, hql⟩ := hI.out
          have HOL := HOLD.out q hq hql
          have hpl : P < K.length := (List.getElem?_eq_some_iff.1 hq).1
          obtain ⟨g, cap', hg⟩ := own_some HOWc.out.own (by omega)
          simp only [Value.slice.injEq] at hg
          obtain ⟨rfl, _, rfl⟩ := hg
          obtain ⟨e0, e1⟩ := HOWc.out.cells hq
          have HN2 : Hid (NodU U (k + 1) (K.set P (q.1, (q.2.1, q.2.2 + 1)))) := HND.out.set hq _
          have hcq := HCB.out q (List.mem_of_getElem? hq)
          have z1 := HOWc.out.own.frozenAt (P * 2 + 1)
          have HS : Hid (OutOwn w2 (wc.setCell ⟨g, P * 2 + 1, none⟩ (.int .i64 (q.2.2 + 1 : Nat))) (.slice (some ⟨g, 0, none⟩) K.length capU) (K.set P (q.1, (q.2.1, q.2.2 + 1)))) := HOWc.out.bump rfl hq _
          have HOL2 : Hid ((K.set P (q.1, (q.2.1, q.2.2 + 1))).map (·.2) = outK ((C.map st).take (k + 1))) := HOL
          have HKL : Hid ((K.set P (q.1, (q.2.1, q.2.2 + 1))).length = K.length) := List.length_set
          have hwr : IntKind.i64.wrap ((q.2.2 : Int) + 1) = ((q.2.2 + 1 : Nat) : Int) := by rw [IntKind.wrap_i64]; omega
          have hBge : w2.heap.size ≤ g := (HOWc.out.own.lt g rfl).1
          have hpI : (P : Int) < (K.length : Int) := by omega
          clear HOL hI HNEW HOLD HOWc hq hql b4
          go_wp2_with fail
          go_roundw
          case measure => simp [intOf]; omega
          case rel => exact ⟨k + 1, _, by omega, by go_num, ⟨some ⟨g, 0, none⟩, capU, by rw [HKL.out]⟩, ⟨HS.out, HOL2.out⟩, HN2.out, hb2c.setCell hBge _⟩
    · have hkk : k = C.length := by omega
      have HR : Hid (OutF w.heap.size wr (.slice aoU K.length capU) (outK SS)) := by
        have e1 := hOW.out.2
        rw [hkk, List.take_of_length_le (by rw [List.length_map]; exact Nat.le_refl _), ← HSS.out] at e1
        obtain ⟨idx, i1, i2, i3⟩ := HND.out
        have hval : ∀ (i : Nat) (q : Value × (List Int × Nat)), K[i]? = some q → ∃ j, idx[i]? = some j ∧ q.1 = U j := fun i q hq => by
          have := congrArg (fun l => l[i]?) i1
          simp only [List.getElem?_map, hq] at this
          cases hj : idx[i]? with
          | none => rw [hj] at this; cases this
          | some j => rw [hj] at this; exact ⟨j, rfl, by simpa using this⟩
        refine ⟨K, e1, own_base hOW.out.1.own hb2.size, fun q hq => ?_, fun i j a z g hij ha hz hg => ?_⟩
        · obtain ⟨i, hi⟩ := List.getElem?_of_mem hq
          obtain ⟨j, h1, h2⟩ := hval i q hi
          obtain ⟨n, hn⟩ := get_of_lt (l := C) (k := j) (by have := i3 j (List.mem_of_getElem? h1); omega)
          have hf := (HUF.out.1 j n hn).2
          rw [← h2] at hf
          have e := intAt_same (hOW.out.1.st q hq) hf.new.at'
          rw [e]
          exact own_keep hf hb
        · obtain ⟨i', h1, h2⟩ := hval i a ha
          obtain ⟨j', h3, h4⟩ := hval j z hz
          have hne : i' ≠ j' := fun e => by
            subst e
            have q1 := (List.getElem?_eq_some_iff.1 h1)
            have q2 := (List.getElem?_eq_some_iff.1 h3)
            obtain ⟨l1, q1⟩ := q1
            obtain ⟨l2, q2⟩ := q2
            have := (List.getElem_inj i2).1 (q1.trans q2.symm)
            omega
          rw [h2] at hg
          rw [h4]
          intro hg'
          rcases Nat.lt_or_gt_of_ne hne with q | q
          · exact HUF.out.2 i' j' g q (by have := i3 j' (List.mem_of_getElem? h3); omega) hg hg'
          · exact HUF.out.2 j' i' g q (by have := i3 i' (List.mem_of_getElem? h1); omega) hg' hg
      have hkI : (C.length : Int) ≤ (k : Int) := by omega
      clear hkk hOW
      go_wp2_with fail
      go_ret
      exact ⟨_, rfl, HR.out, below_more hb2 hb⟩

end Go.Proofs.YtomijmikkbhgmaaGreat

namespace Go.Proofs.YtomijmikkbhgmaaGreat
open Go.RowKit

/-- What Outcomes tells, in lists of its own. -/
def OOutF (B : Nat) (T : List (List Ins)) (c : List Atm) (al : Nat → Bool) (w : World) (u : Value) (er : Int) : Prop :=
  ((chk T c).1 ≠ 0 ∧ er = (chk T c).1 ∧ u = .slice none 0 0) ∨ ((chk T c).1 = 0 ∧ er = 0 ∧ OutF B w u (outK (stsL al T (evsT T 0) (sizeN (evsT T 0)))))
theorem OOutF.at' {B : Nat} {T : List (List Ins)} {c : List Atm} {al : Nat → Bool} {w : World} {u : Value} {er : Int} (h : OOutF B T c al w u er) : OOut T c al w u er := by
  rcases h with h | ⟨h1, h2, h3⟩
  · exact .inl h
  · exact .inr ⟨h1, h2, h3.at'⟩

set_option maxRecDepth 20000 in
set_option maxHeartbeats 2000000 in
theorem outcomesP_own (T : List (List Ins)) (fa : Bool) (c : List Atm) (al : Nat → Bool) (hal : Als T (evsT T 0) al) (vt vc : Value) (w : World) (h : TestAt w (.agg #[vt, .bool fa, vc]) T fa c vt vc) :
    Calls Tryz.prog 21 #[.agg #[vt, .bool fa, vc]] w fun e w' => ∃ (u : Value) (er : Int), e = .returned (.tuple #[u, .int .i64 er]) ∧ OOutF w.heap.size T c al w' u er ∧ Below w.heap.size w w' := by
  have HT : Hid (TestAt w (.agg #[vt, .bool fa, vc]) T fa c vt vc) := h
  have HLS : Hid (((chk T c).1 == 0) = true → ∀ w', Below w.heap.size w w' → Calls Tryz.prog 39 #[vt] w' fun e w'' => ∃ u, e = .returned u ∧ Ev4Cap w'' u (evsT T 0) ∧ Below w'.heap.size w' w'') := fun hz w' hb => list_cap T vt w' (h.ht.keep hb) (fits_of hz).short.t4 (fits_of hz).lens
  have HOF : Hid (((chk T c).1 == 0) = true → ∀ (u : Value) (w' : World), Below w.heap.size w w' → Ev4Cap w' u (evsT T 0) → Calls Tryz.prog 44 #[vt, u] w' fun e w'' => ∃ v, e = .returned v ∧ OutF w.heap.size w'' v (outK (stsL al T (evsT T 0) (sizeN (evsT T 0)))) ∧ Below w'.heap.size w' w'') := fun hz u w' hb hu => (outcomesOf_own T c hz al hal vt u w' (h.ht.keep hb) hu).mono fun _ _ ⟨v, he, hv, hb'⟩ => ⟨v, he, hv.less hb.size, hb'⟩
  have HJ : Hid (∀ w' u er, OOutF w.heap.size T c al w' u er ↔ ((chk T c).1 ≠ 0 ∧ er = (chk T c).1 ∧ u = .slice none 0 0) ∨ ((chk T c).1 = 0 ∧ er = 0 ∧ OutF w.heap.size w' u (outK (stsL al T (evsT T 0) (sizeN (evsT T 0)))))) := fun _ _ _ => Iff.rfl
  generalize OOutF w.heap.size T c al = J at HJ ⊢
  generalize outK (stsL al T (evsT T 0) (sizeN (evsT T 0))) = KK at HJ HOF
  generalize evsT T 0 = E at HLS HOF
  generalize hq : chk T c = q at HLS HOF HJ
  have HQ : Hid (chk T c = q) := hq
  clear hq h
  go_enter Tryz.func21, Tryz.ntmps21
  go_wp2_with fail
  have hba := below_alloc w (.cells #[vt, .bool fa, vc] 25)
  refine (find_any T fa c _ vt vc _ (HT.out.keep hba)).mono ?_
  rw [HQ.out]
  rintro e w3 ⟨rfl, hb3⟩
  unfold fault2
  have hbw3 := below_more hba hb3
  have t0 := keep_cell hb3 (b := w.heap.size) (off := 0) (u := vt) (by simp)
  have s0 := World.block_lt_of_cell? _ _ t0
  simp only at s0
  clear hb3
  cases hz : q.1 == 0
  · have hz2 : (q.1 != 0) = true := by simp [bne, hz]
    have HM : Hid (∀ w', J w' (.slice none 0 0) q.1) := fun w' => (HJ.out w' _ q.1).2 (.inl ⟨by simpa using hz, rfl, rfl⟩)
    clear HJ
    go_wp2_with fail
    go_quiet (fail)
    go_wp2_with fail
    go_ret2
    exact ⟨_, _, rfl, HM.out _, below_drewN (hbw3.alloc hbw3.size _) _⟩
  · have hz2 : (q.1 != 0) = false := by simp [bne, hz]
    have hq0 : q.1 = 0 := by simpa using hz
    have HJ2 : Hid (∀ w' u, OutF w.heap.size w' u KK → J w' u 0) := fun w' u h => (HJ.out w' u 0).2 (.inr ⟨hq0, rfl, h⟩)
    have HL1 := HLS.out hz
    have HO1 := HOF.out hz
    have HL2 : Hid (∀ w', Below w.heap.size w w' → Calls Tryz.prog 39 #[vt] w' fun e w'' => ∃ u, e = .returned u ∧ Ev4Cap w'' u E ∧ Below w'.heap.size w' w'') := HL1
    have HO2 : Hid (∀ (u : Value) (w' : World), Below w.heap.size w w' → Ev4Cap w' u E → Calls Tryz.prog 44 #[vt, u] w' fun e w'' => ∃ v, e = .returned v ∧ OutF w.heap.size w'' v KK ∧ Below w'.heap.size w' w'') := HO1
    clear HJ hq0 HLS HOF HL1 HO1
    have hbw4 := hbw3.alloc hbw3.size (.cells #[.int .i64 q.1, .int .i64 q.2] 84)
    have hb34 := below_alloc w3 (.cells #[.int .i64 q.1, .int .i64 q.2] 84)
    go_wp2_with fail
    refine (HL2.out _ hbw4).mono ?_
    rintro e w5 ⟨u5, rfl, hu5, hb5⟩
    have HU5 : Hid (Ev4Cap w5 u5 E) := hu5
    have hbw5 := below_more hbw4 hb5
    replace t0 := keep_cell (below_more hb34 hb5) t0
    clear hu5 hb5 hb34 hbw4 hbw3
    go_wp2_with fail
    refine (HO2.out u5 w5 hbw5 HU5.out).mono ?_
    rintro e w6 ⟨v6, rfl, hv6, hb6⟩
    have HM : Hid (J w6 v6 0) := HJ2.out _ _ hv6
    have hbw6 := below_more hbw5 hb6
    clear hv6 hb6 t0
    go_wp2_with fail
    go_ret2
    exact ⟨_, _, rfl, HM.out, hbw6⟩

theorem OOut.same {T : List (List Ins)} {c : List Atm} {al : Nat → Bool} {w w' : World} {u u' : Value} {er er' : Int} (h : OOut T c al w u er) (k : OOut T c al w' u' er') : er = er' ∧ ∃ K : List (List Int × Nat), K.length ≤ 2000 ∧ (∀ p ∈ K, p.1.length ≤ 100) ∧ OutAt w u K ∧ OutAt w' u' K := by
  have n1 : ∀ w, OutAt w (.slice none 0 0) [] := fun w => ⟨none, 0, 0, 0, rfl, fun h => absurd rfl h, fun _ => ⟨rfl, rfl⟩, fun k x h => by simp at h⟩
  rcases h with ⟨h1, h2, rfl⟩ | ⟨h1, h2, h3⟩ <;> rcases k with ⟨k1, k2, rfl⟩ | ⟨k1, k2, k3⟩
  · exact ⟨h2.trans k2.symm, [], by simp, fun p hp => (by cases hp), n1 _, n1 _⟩
  · exact absurd k1 h1
  · exact absurd h1 k1
  · refine ⟨h2.trans k2.symm, _, ?_, ?_, h3, k3⟩
    · have hz : ((chk T c).1 == 0) = true := by simpa using h1
      have e1 := outK_len (stsL al T (evsT T 0) (sizeN (evsT T 0)))
      have e2 := List.length_filterMap_le id (optL al T (evsT T 0) (sizeN (evsT T 0)))
      have e3 := optL_len al T (evsT T 0) (sizeN (evsT T 0))
      have e4 := chk_many_no hz
      unfold stsL at e1 ⊢
      omega
    · have hz : ((chk T c).1 == 0) = true := by simpa using h1
      have hT := (fits_of hz).short.t4
      obtain ⟨_, s2, _⟩ := outK_spec (n := 3 * T.length + 3) (L := stsL al T (evsT T 0) (sizeN (evsT T 0))) (fun s hs => by
        unfold stsL at hs
        rw [casN_states] at hs
        obtain ⟨n, _, rfl⟩ := List.mem_map.1 hs
        exact stX_len _ _ _)
      intro p hp
      have := s2 p hp
      omega

set_option maxRecDepth 20000 in
set_option maxHeartbeats 2000000 in
theorem sameOutcomes_any (K : List (List Int × Nat)) (hK : K.length ≤ 2000) (hl : ∀ p ∈ K, p.1.length ≤ 100) (u v : Value) (w : World) (hu : OutAt w u K) (hv : OutAt w v K) :
    Calls Tryz.prog 23 #[u, v] w fun e w' => e = .returned (.bool true) ∧ Below w.heap.size w w' := by
  obtain ⟨ao, b, off, cap, hu1, ha, _, hc⟩ := hu
  obtain ⟨ao2, b2, off2, cap2, hv1, ha2, _, hc2⟩ := hv
  subst hu1 hv1
  have HC : Hid ((∀ k p, K[k]? = some p → OutC w b (off + k * 2) p) ∧ (∀ k p, K[k]? = some p → OutC w b2 (off2 + k * 2) p) ∧ ∀ p ∈ K, p.1.length ≤ 100) := ⟨hc, hc2, hl⟩
  clear hc hc2 hl
  go_enter Tryz.func23, Tryz.ntmps23
  go_wp2_with fail
  go_loopw [5] (fun i wr => ∃ k : Nat, k ≤ K.length ∧ i = .int .i64 k ∧ Below w.heap.size w wr) (fun i _ => K.length - (intOf i).toNat)
  case atStart => exact ⟨0, Nat.zero_le _, rfl, Below.refl _ _⟩
  case round =>
    obtain ⟨k, hk, rfl, hb⟩ := hrel
    by_cases hlt : k < K.length
    · obtain ⟨p, hp⟩ := get_of_lt hlt
      obtain rfl := ha (ne_nil hlt)
      obtain rfl := ha2 (ne_nil hlt)
      obtain ⟨u1, c0, c1, hi1⟩ := outC_keeps _ _ _ _ _ hb (HC.out.1 k p hp)
      obtain ⟨u2, d0, d1, hi2⟩ := outC_keeps _ _ _ _ _ hb (HC.out.2.1 k p hp)
      have hpl := HC.out.2.2 p (List.mem_of_getElem? hp)
      obtain ⟨a1, p1, e1⟩ := hi1.form
      obtain ⟨a2, p2, e2⟩ := hi2.form
      subst e1 e2
      have HS : Hid (∀ w', Below wr.heap.size wr w' → Calls Tryz.prog 20 #[.slice a1 p.1.length p1, .slice a2 p.1.length p2] w' fun e w'' => e = .returned (.bool true) ∧ Below w'.heap.size w' w'') := fun w' hb' => sameInts_any p.1 (by omega) _ _ w' (hi1.keep hb') (hi2.keep hb')
      have hkI : (k : Int) < (K.length : Int) := by omega
      have hne : ((p.2 : Int) != (p.2 : Int)) = false := by simp
      generalize p.1.length = ln at *
      generalize p.2 = cn at *
      clear hi1 hi2 hp hpl
      have g0 := grown_cell c0
      have g1 := grown_cell d0
      have hnw := grw_some wr
      go_wp2_with fail
      refine wp_region_grown (by kernel_rfl) (by kernel_rfl) ?_
      repeat (go_big_quiet_step ((go_at_call 20; exact grown_call (HS.out _ (Grw.low _)))))
      refine wpQuiet_nil ?_
      intro w7 hw7
      obtain ⟨⟨w7', hb7⟩, rfl⟩ := hw7
      have g2 := grown_cell (keep_cell hb7 c1)
      have g3 := grown_cell (keep_cell hb7 d1)
      have hnw7 := grw_some w7
      have hb8 := below_more hb hb7
      clear g0 g1 HS c0 c1 d0 d1 hb hb7 hnw
      go_wp2_with fail
      refine wp_region_grown (by kernel_rfl) (by kernel_rfl) ?_
      repeat (go_big_quiet_step (fail))
      refine wpQuiet_nil ?_
      intro w9 hw9
      obtain ⟨⟨w9', hb9⟩, rfl⟩ := hw9
      clear g2 g3
      go_wp2_with fail
      go_roundw
      case measure => simp [intOf]; omega
      case rel => exact ⟨k + 1, by omega, by go_num, below_more hb8 hb9⟩
    · have hkI : (K.length : Int) ≤ (k : Int) := by omega
      go_wp2_with fail
      go_ret
      exact ⟨rfl, hb⟩

end Go.Proofs.YtomijmikkbhgmaaGreat
