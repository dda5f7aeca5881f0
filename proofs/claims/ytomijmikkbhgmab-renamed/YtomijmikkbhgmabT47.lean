import Derived.Test.YtomijmikkbhgmabT44
import Derived.Test.YtomijmikkbhgmabVm
namespace Go.Proofs.Ytomijmikkbhgmab
open Go.RowKit

theorem flat_setL (L : List Ins) (j : Nat) (x : Ins) (d : Int) (h : L[j]? = some x) : (L.flatMap insV).set (j * 5 + 1) (.int .i64 d) = (L.set j { x with loc := d }).flatMap insV := by
  induction L generalizing j with
  | nil => simp at h
  | cons y L ih =>
    cases j with
    | zero => simp at h; subst h; rfl
    | succ j =>
      have := ih j (by simpa using h)
      rw [List.set_cons_succ, List.flatMap_cons, List.flatMap_cons, ← this, List.set_append_right _ _ (by show (insV y).length ≤ _; simp [insV]; omega)]
      congr 1
      congr 1
      simp [insV]
      omega

/-- A copy whose locations are being changed about. -/
structure SwAt (w : World) (BB R C : Nat) (V vc : Value) (fa : Bool) (U : List (List Ins)) (vs : List Value) (wr : World) : Prop where
  below : Below w.heap.size w wr
  len : vs.length = U.length
  own : wr.ownsRow BB 34 1 V U.length vs
  rows : CpRows BB wr V U.length U vs
  c0 : wr.cell? ⟨C, 0, none⟩ = some V
  c1 : wr.cell? ⟨C, 1, none⟩ = some (.bool fa)
  c2 : wr.cell? ⟨C, 2, none⟩ = some vc
  z2 : wr.frozen? ⟨C, 2, none⟩ = false
  r0 : wr.cell? ⟨R, 0, none⟩ = some (.slice none 0 0)
  r1 : wr.cell? ⟨R, 1, none⟩ = some (.bool false)
  r2 : wr.cell? ⟨R, 2, none⟩ = some (.slice none 0 0)
  q : ∀ j, wr.frozen? ⟨R, j, none⟩ = false
  bV : ∀ b, V.ownBlock = some b → b < C
  bR : ∀ (j : Nat) (u : Value) (b : Nat), vs[j]? = some u → u.ownBlock = some b → b < C
  hR : R < BB
  hW : w.heap.size ≤ R
  hC : C < wr.heap.size

theorem SwAt.keep {w : World} {BB R C : Nat} {V vc : Value} {fa : Bool} {U : List (List Ins)} {vs : List Value} {wr w' : World} (h : SwAt w BB R C V vc fa U vs wr) (hb : Below wr.heap.size wr w') : SwAt w BB R C V vc fa U vs w' :=
  ⟨below_more h.below hb, h.len, own_keep h.own hb, h.rows.other (fun b _ hb' _ => hb.block b hb'), keep_cell hb h.c0, keep_cell hb h.c1, keep_cell hb h.c2, (keep_frozen' hb h.hC).trans h.z2, keep_cell hb h.r0, keep_cell hb h.r1, keep_cell hb h.r2,
    fun j => (keep_frozen' hb (World.block_lt_of_cell? _ _ h.r0)).trans (h.q j), h.bV, h.bR, h.hR, h.hW, Nat.lt_of_lt_of_le h.hC hb.size⟩

/-- One location is written. -/
theorem SwAt.put {w : World} {BB R C : Nat} {V vc : Value} {fa : Bool} {U : List (List Ins)} {vs : List Value} {wr : World} (h : SwAt w BB R C V vc fa U vs wr) {a j g cap : Nat} {L : List Ins} {x : Ins} (hL : U[a]? = some L) (hx : L[j]? = some x) (hu : vs[a]? = some (.slice (some ⟨g, 0, none⟩) L.length cap)) (_hBC : BB ≤ C) (d : Int) :
    SwAt w BB R C V vc fa (U.set a (L.set j { x with loc := d })) vs (wr.setCell ⟨g, j * 5 + 1, none⟩ (.int .i64 d)) := by
  have ha := (List.getElem?_eq_some_iff.1 hL).1
  have hgb : (Value.slice (some ⟨g, 0, none⟩) L.length cap).ownBlock = some g := rfl
  obtain ⟨u, e1, e2, e3⟩ := h.rows.row a L ha hL
  rw [hu] at e1
  cases e1
  have hgl := e2.lt g hgb
  have hgC := h.bR a _ g hu hgb
  have hgV := e3 g hgb
  have hs : ∀ b : Nat, b ≠ g → (wr.setCell ⟨g, j * 5 + 1, none⟩ (.int .i64 d)).heap[b]? = wr.heap[b]? := fun b hb => heap_setCell_other wr ⟨g, j * 5 + 1, none⟩ b _ hb
  have hbg : w.heap.size ≤ g := by have := h.hR; have := h.hW; omega
  refine ⟨h.below.setCell hbg _, by rw [List.length_set]; exact h.len, by rw [List.length_set]; exact own_other h.own (fun b hb => hs b (fun e => hgV (by rw [← e]; exact hb))), ⟨fun t l ht hl => ?_, h.rows.apart⟩, cell_heap (hs C (by omega)) h.c0, cell_heap (hs C (by omega)) h.c1, cell_heap (hs C (by omega)) h.c2,
    (World.frozen?_of_block (w := wr) (hs C (by omega))).trans h.z2, cell_heap (hs R (by have := h.hR; omega)) h.r0, cell_heap (hs R (by have := h.hR; omega)) h.r1, cell_heap (hs R (by have := h.hR; omega)) h.r2,
    fun i => (World.frozen?_of_block (w := wr) (hs R (by have := h.hR; omega))).trans (h.q i), h.bV, h.bR, h.hR, h.hW, by simpa using h.hC⟩
  rw [List.length_set] at ht
  by_cases hat : a = t
  · subst hat
    rw [List.getElem?_set_self ha] at hl
    cases hl
    refine ⟨_, hu, ?_, e3⟩
    have := (e2.stored (j * 5 + 1) (.int .i64 d)).1
    rw [flat_setL L j x d hx] at this
    rw [List.length_set]
    exact this
  · rw [List.getElem?_set_ne hat] at hl
    obtain ⟨z, q1, q2, q3⟩ := h.rows.row t l ht hl
    refine ⟨z, q1, own_other q2 (fun b hb => hs b (fun e => ?_)), q3⟩
    subst e
    rcases Nat.lt_trichotomy a t with hlt | heq | hlt
    · exact h.rows.apart a t _ _ _ hlt hu q1 hgb hb
    · exact hat heq
    · exact h.rows.apart t a _ _ _ hlt q1 hu hb hgb

/-- The locations of the threads ahead of one are changed. -/
def swA (k m : Int) (T : List (List Ins)) (a : Nat) : List (List Ins) := (T.take a).map (fun l => l.map (swI k m)) ++ T.drop a
def swL (k m : Int) (l : List Ins) (j : Nat) : List Ins := (l.take j).map (swI k m) ++ l.drop j

theorem swL_zero (k m : Int) (l : List Ins) : swL k m l 0 = l := by unfold swL; simp
theorem swL_all (k m : Int) (l : List Ins) : swL k m l l.length = l.map (swI k m) := by unfold swL; simp
theorem swL_len (k m : Int) (l : List Ins) (j : Nat) : (swL k m l j).length = l.length := by unfold swL; simp; omega
theorem swL_get {k m : Int} {l : List Ins} {j : Nat} {x : Ins} (h : l[j]? = some x) : (swL k m l j)[j]? = some x := by
  have hj := (List.getElem?_eq_some_iff.1 h).1
  unfold swL
  rw [List.getElem?_append_right (by simp; omega), List.length_map, List.length_take, Nat.min_eq_left (by omega), Nat.sub_self, List.getElem?_drop, Nat.add_zero]
  exact h
theorem swL_step {k m : Int} {l : List Ins} {j : Nat} {x : Ins} (h : l[j]? = some x) : swL k m l (j + 1) = (swL k m l j).set j (swI k m x) := by
  have hj := (List.getElem?_eq_some_iff.1 h).1
  unfold swL
  rw [take_snoc h, drop_cons h, List.map_append, List.append_assoc, List.set_append_right _ _ (by simp; omega), List.length_map, List.length_take, Nat.min_eq_left (by omega), Nat.sub_self, List.set_cons_zero]
  rfl
theorem swA_zero (k m : Int) (T : List (List Ins)) : swA k m T 0 = T := by unfold swA; simp
theorem swA_all (k m : Int) (T : List (List Ins)) : swA k m T T.length = swU k m T := by unfold swA swU; simp
theorem swA_len (k m : Int) (T : List (List Ins)) (a : Nat) : (swA k m T a).length = T.length := by unfold swA; simp; omega
theorem swA_get {k m : Int} {T : List (List Ins)} {a : Nat} {l : List Ins} (h : T[a]? = some l) : (swA k m T a)[a]? = some l := by
  have ha := (List.getElem?_eq_some_iff.1 h).1
  unfold swA
  rw [List.getElem?_append_right (by simp; omega), List.length_map, List.length_take, Nat.min_eq_left (by omega), Nat.sub_self, List.getElem?_drop, Nat.add_zero]
  exact h
theorem swA_set0 {k m : Int} {T : List (List Ins)} {a : Nat} {l : List Ins} (h : T[a]? = some l) : (swA k m T a).set a l = swA k m T a := by
  apply List.ext_getElem?
  intro t
  by_cases hat : a = t
  · subst hat
    have := swA_get (k := k) (m := m) h
    rw [List.getElem?_set_self (List.getElem?_eq_some_iff.1 this).1, this]
  · rw [List.getElem?_set_ne hat]
theorem swA_step {k m : Int} {T : List (List Ins)} {a : Nat} {l : List Ins} (h : T[a]? = some l) : swA k m T (a + 1) = (swA k m T a).set a (l.map (swI k m)) := by
  have ha := (List.getElem?_eq_some_iff.1 h).1
  unfold swA
  rw [take_snoc h, drop_cons h, List.map_append, List.append_assoc, List.set_append_right _ _ (by simp; omega), List.length_map, List.length_take, Nat.min_eq_left (by omega), Nat.sub_self, List.set_cons_zero]
  rfl

/-- In the midst of a thread. -/
def swM (k m : Int) (T : List (List Ins)) (a : Nat) (l : List Ins) (j : Nat) : List (List Ins) := (swA k m T a).set a (swL k m l j)
theorem swM_get {k m : Int} {T : List (List Ins)} {a : Nat} {l : List Ins} (h : T[a]? = some l) (j : Nat) : (swM k m T a l j)[a]? = some (swL k m l j) := by
  unfold swM
  exact List.getElem?_set_self (by rw [swA_len]; exact (List.getElem?_eq_some_iff.1 h).1)
theorem swM_len (k m : Int) (T : List (List Ins)) (a : Nat) (l : List Ins) (j : Nat) : (swM k m T a l j).length = T.length := by unfold swM; rw [List.length_set, swA_len]
theorem swM_step {k m : Int} {T : List (List Ins)} {a : Nat} {l : List Ins} {j : Nat} {x : Ins} (hx : l[j]? = some x) : swM k m T a l (j + 1) = (swM k m T a l j).set a ((swL k m l j).set j (swI k m x)) := by
  unfold swM
  rw [List.set_set, swL_step hx]
theorem swM_same {k m : Int} {T : List (List Ins)} {a : Nat} {l : List Ins} {j : Nat} {x : Ins} (hx : l[j]? = some x) (h : swI k m x = x) : swM k m T a l (j + 1) = swM k m T a l j := by
  unfold swM
  rw [swL_step hx, h]
  congr 1
  apply List.ext_getElem?
  intro t
  by_cases hjt : j = t
  · subst hjt
    have := swL_get (k := k) (m := m) hx
    rw [List.getElem?_set_self (List.getElem?_eq_some_iff.1 this).1, this]
  · rw [List.getElem?_set_ne hjt]

/-- A row of the copy, opened. -/
theorem SwAt.row {w : World} {BB R C : Nat} {V vc : Value} {fa : Bool} {U : List (List Ins)} {vs : List Value} {wr : World} (h : SwAt w BB R C V vc fa U vs wr) {gV capV a : Nat} {L : List Ins} (hV : V = .slice (some ⟨gV, 0, none⟩) U.length capV) (hL : U[a]? = some L) : ∃ ao cap, vs[a]? = some (.slice ao L.length cap) ∧ wr.cell? ⟨gV, a, none⟩ = some (.slice ao L.length cap) ∧
    ∀ (j : Nat) (x : Ins), L[j]? = some x → ∃ g, ao = some ⟨g, 0, none⟩ ∧ wr.cell? ⟨g, j * 5, none⟩ = some (.int .i64 x.op) ∧ wr.cell? ⟨g, j * 5 + 1, none⟩ = some (.int .i64 x.loc) ∧ wr.cell? ⟨g, j * 5 + 2, none⟩ = some (.int .i64 x.reg) ∧ wr.cell? ⟨g, j * 5 + 3, none⟩ = some (.int .i64 x.val) ∧ wr.cell? ⟨g, j * 5 + 4, none⟩ = some (.int .i64 x.mode) ∧ wr.frozen? ⟨g, j * 5 + 1, none⟩ = false := by
  have ha := (List.getElem?_eq_some_iff.1 hL).1
  obtain ⟨u, e1, e2, e3⟩ := h.rows.row a L ha hL
  obtain ⟨ao, cap, hf⟩ := own_form1' e2
  subst hf
  have ho := h.own
  rw [hV] at ho
  refine ⟨ao, cap, e1, (ho.cellAt a (by omega)).trans e1, fun j x hx => ?_⟩
  have hj := (List.getElem?_eq_some_iff.1 hx).1
  obtain ⟨g, cap', hf⟩ := own_some2 e2 (by omega)
  simp only [Value.slice.injEq] at hf
  obtain ⟨rfl, -, rfl⟩ := hf
  have hc : ∀ r u, r < 5 → (insV x)[r]? = some u → wr.cell? ⟨g, j * 5 + r, none⟩ = some u := fun r u hr hu => by
    rw [e2.cellAt (j * 5 + r) (by omega), flat_get insV 5 (fun _ => rfl) L j r x hx hr]
    exact hu
  exact ⟨g, rfl, hc 0 _ (by omega) rfl, hc 1 _ (by omega) rfl, hc 2 _ (by omega) rfl, hc 3 _ (by omega) rfl, hc 4 _ (by omega) rfl, e2.frozenAt _⟩

end Go.Proofs.Ytomijmikkbhgmab

namespace Go.Proofs.Ytomijmikkbhgmab
open Go.RowKit

theorem swI_k {k m : Int} {x : Ins} (h0 : 0 ≤ x.op) (h3 : x.op ≤ 3) (h : (x.loc == k) = true) : swI k m x = { x with loc := m } := by
  unfold swI lamL
  rw [if_pos ⟨h0, h3⟩, if_pos h]
theorem swI_m {k m : Int} {x : Ins} (h0 : 0 ≤ x.op) (h3 : x.op ≤ 3) (h : (x.loc == k) = false) (h' : (x.loc == m) = true) : swI k m x = { x with loc := k } := by
  unfold swI lamL
  rw [if_pos ⟨h0, h3⟩, if_neg (by simp [h]), if_pos h']
theorem swI_no {k m : Int} {x : Ins} (h : (x.loc == k) = false) (h' : (x.loc == m) = false) : swI k m x = x := by
  unfold swI lamL
  split
  · rw [if_neg (by simp [h]), if_neg (by simp [h'])]
  · rfl
theorem swI_op3 {k m : Int} {x : Ins} (h3 : ¬ x.op ≤ 3) : swI k m x = x := by
  unfold swI
  rw [if_neg (fun h => h3 h.2)]

set_option maxRecDepth 20000 in
set_option maxHeartbeats 8000000 in
theorem swapped_any (T : List (List Ins)) (fa : Bool) (c : List Atm) (i j : Nat) (hi : i < T.length) (hj : j < T.length) (k m : Nat) (hop : ∀ l ∈ T, ∀ x ∈ l, 0 ≤ x.op) (hl12 : ∀ l ∈ T, l.length ≤ 12) (hT4 : T.length ≤ 4) (vt vc : Value) (w : World) (h : TestAt w (.agg #[vt, .bool fa, vc]) T fa c vt vc) :
    Calls Try.prog 16 #[.agg #[vt, .bool fa, vc], .int .i64 i, .int .i64 j, .int .i64 k, .int .i64 m] w fun e w' => ∃ vt' vc', e = .returned (.agg #[vt', .bool fa, vc']) ∧ TestAt w' (.agg #[vt', .bool fa, vc']) (swT T i j k m) fa [] vt' vc' ∧ Below w.heap.size w w' := by
  have HC1 : Hid (∀ w', Below w.heap.size w w' → Calls Try.prog 27 #[.agg #[vt, .bool fa, vc]] w' fun e w'' => ∃ vt' vc', e = .returned (.agg #[vt', .bool fa, vc']) ∧ Hid (TestAt w'' (.agg #[vt', .bool fa, vc']) T fa c vt' vc' ∧ ∃ vs, CpAt w'.heap.size w'' vt' vc' T c vs) ∧ Below w'.heap.size w' w'') := fun w' hb => copy_new T fa c _ vt vc w' (h.keep hb)
  obtain ⟨ht0, aot, bt', offt', capt, htv, hta, _, htc⟩ := h.ht.opened
  obtain ⟨hc0, aoc, bc, offc, capc, hsc⟩ := h.hc
  have hcv := hsc.hv
  subst htv hcv
  have HOP : Hid ((∀ l ∈ T, ∀ x ∈ l, 0 ≤ x.op) ∧ ∀ l ∈ T, l.length ≤ 12) := ⟨hop, hl12⟩
  clear h hsc htc hta hop hl12
  have hba := below_two w (.cells #[.slice aot T.length capt, .bool fa, .slice aoc c.length capc] 25) (.cells #[.slice none 0 0, .bool false, .slice none 0 0] 25)
  go_enter Try.func16, Try.ntmps16
  go_wp2_with fail
  refine (HC1.out _ hba).mono ?_
  rintro e w3 ⟨vt3, vc3, rfl, ht3, hb3⟩
  obtain ⟨vs, hcp⟩ := ht3.out.2
  obtain ⟨gV, capV, hV⟩ := own_some2 hcp.own (by omega)
  subst hV
  obtain ⟨aoN, capN, hvN⟩ : ∃ aoN capN, vc3 = .slice aoN c.length capN := by
    obtain ⟨_, a, b', o', k', hk'⟩ := hcp.atm
    exact ⟨a, k', hk'.hv⟩
  subst hvN
  go_upto_region 2 with fail
  have hb34 := below_alloc w3 (.cells #[.slice (some ⟨gV, 0, none⟩) T.length capV, .bool fa, .slice aoN c.length capN] 25)
  have HS4 : Hid (SwAt w (w.heap.size + 2) (w.heap.size + 1) w3.heap.size (.slice (some ⟨gV, 0, none⟩) T.length capV) (.slice aoN c.length capN) fa T vs (w3.alloc (.cells #[.slice (some ⟨gV, 0, none⟩) T.length capV, .bool fa, .slice aoN c.length capN] 25))) := by
    have hsz : w.heap.size + 2 ≤ w3.heap.size := by have := hb3.size; simp only [World.size_alloc] at this; omega
    have e2 : ((w.alloc (.cells #[.slice aot T.length capt, .bool fa, .slice aoc c.length capc] 25)).alloc (.cells #[.slice none 0 0, .bool false, .slice none 0 0] 25)).heap.size = w.heap.size + 2 := by simp
    rw [e2] at hcp
    have kr : ∀ (o : Nat) (u : Value), (#[.slice none 0 0, .bool false, .slice none 0 0] : Array Value)[o]? = some u → (w3.alloc (.cells #[.slice (some ⟨gV, 0, none⟩) T.length capV, .bool fa, .slice aoN c.length capN] 25)).cell? ⟨w.heap.size + 1, o, none⟩ = some u := fun o u hu => keep_cell hb34 (keep_cell hb3 (cell_new (by simp) hu))
    have hrow : ∀ (t : Nat) (u : Value) (b : Nat), vs[t]? = some u → u.ownBlock = some b → b < w3.heap.size := fun t u b hu hb => by
      have ht : t < T.length := by have := (List.getElem?_eq_some_iff.1 hu).1; rw [hcp.len] at this; exact this
      obtain ⟨l, hl⟩ := get_of_lt ht
      obtain ⟨z, q1, q2, _⟩ := hcp.rows.row t l ht hl
      rw [hu] at q1
      cases q1
      exact (q2.lt b hb).2
    exact ⟨below_more (below_more hba hb3) hb34, hcp.len, own_keep hcp.own hb34, hcp.rows.other (fun b _ hb' _ => hb34.block b hb'), cell_new rfl rfl, cell_new rfl rfl, cell_new rfl rfl, frozen_new rfl, kr 0 _ rfl, kr 1 _ rfl, kr 2 _ rfl,
      fun t => (keep_frozen' hb34 (by omega)).trans ((keep_frozen' hb3 (by simp)).trans (frozen_new (by simp))), fun b hb => (hcp.own.lt b hb).2, hrow, by omega, by omega, by simp⟩
  have hBC : w.heap.size + 2 ≤ w3.heap.size := by have := hb3.size; simp only [World.size_alloc] at this; omega
  obtain ⟨w4, hw4⟩ : ∃ x, x = w3.alloc (.cells #[.slice (some ⟨gV, 0, none⟩) T.length capV, .bool fa, .slice aoN c.length capN] 25) := ⟨_, rfl⟩
  rw [← hw4] at HS4 ⊢
  clear hw4 hb34 hcp ht3 hba hb3 HC1
  generalize hC : w3.heap.size = C at *
  generalize hcl : c.length = cn at *
  clear hC hcl hc0
  generalize hBB : w.heap.size + 2 = BB at *
  generalize hRR : w.heap.size + 1 = RR at *
  have hRB : RR < BB := by omega
  have hwR : w.heap.size < RR := by omega
  clear hBB hRR
  go_wp2_with fail
  go_loopw [12] (fun x wr => ∃ a : Nat, a ≤ T.length ∧ x = .int .i64 a ∧ Hid (SwAt w BB RR C (.slice (some ⟨gV, 0, none⟩) T.length capV) (.slice aoN cn capN) fa (swA k m T a) vs wr)) (fun x _ => T.length - (intOf x).toNat)
  case atStart => exact ⟨0, Nat.zero_le _, rfl, by rw [swA_zero]; exact HS4.out⟩
  case round =>
    obtain ⟨a, ha, rfl, HS⟩ := hrel
    by_cases hlt : a < T.length
    · have haI : (a : Int) < (T.length : Int) := by omega
      obtain ⟨l, hl⟩ := get_of_lt hlt
      have hlm := List.mem_of_getElem? hl
      have hll := HOP.out.2 l hlm
      have HOPL : Hid (∀ x ∈ l, 0 ≤ x.op) := HOP.out.1 l hlm
      have HL : Hid (T[a]? = some l) := hl
      have c0 := HS.out.c0
      clear hl hlm
      go_wp2_with fail
      have HSM : Hid (SwAt w BB RR C (.slice (some ⟨gV, 0, none⟩) T.length capV) (.slice aoN cn capN) fa (swM k m T a l 0) vs wr) := by
        unfold Hid swM
        rw [swL_zero, swA_set0 HL.out]
        exact HS.out
      clear c0 HS
      go_loopw [13] (fun y ws => ∃ b : Nat, b ≤ l.length ∧ y = .int .i64 b ∧ Hid (SwAt w BB RR C (.slice (some ⟨gV, 0, none⟩) T.length capV) (.slice aoN cn capN) fa (swM k m T a l b) vs ws)) (fun y _ => l.length - (intOf y).toNat)
      case atStart => exact ⟨0, Nat.zero_le _, rfl, HSM.out⟩
      case round =>
        obtain ⟨ws, hws⟩ : ∃ x, x = wr := ⟨_, rfl⟩
        subst hws
        obtain ⟨b, hbl, rfl, HSb⟩ := hrel
        obtain ⟨ao, cap, e1, cV, hrow⟩ := HSb.out.row (by rw [swM_len]) (swM_get HL.out b)
        have hsl : (swL k m l b).length = l.length := swL_len _ _ _ _
        rw [hsl] at e1 cV
        have c0 := HSb.out.c0
        by_cases hlb : b < l.length
        · have hbI : (b : Int) < (l.length : Int) := by omega
          obtain ⟨x, hx⟩ := get_of_lt hlb
          obtain ⟨g, hao, x0, x1, x2, x3, x4, xz⟩ := hrow b x (swL_get hx)
          subst hao
          have h0 := HOPL.out x (List.mem_of_getElem? hx)
          have HX : Hid (l[b]? = some x) := hx
          have HE1 : Hid (vs[a]? = some (.slice (some ⟨g, 0, none⟩) l.length cap)) := e1
          clear hrow hx e1 hsl
          go_upto_region 9 with fail
          have hb45 := below_alloc ws (.cells #[.int .i64 x.op, .int .i64 x.loc, .int .i64 x.reg, .int .i64 x.val, .int .i64 x.mode] 37)
          have y0 : (ws.alloc (.cells #[.int .i64 x.op, .int .i64 x.loc, .int .i64 x.reg, .int .i64 x.val, .int .i64 x.mode] 37)).cell? ⟨ws.heap.size, 0, none⟩ = some (.int .i64 x.op) := cell_new rfl rfl
          have y1 : (ws.alloc (.cells #[.int .i64 x.op, .int .i64 x.loc, .int .i64 x.reg, .int .i64 x.val, .int .i64 x.mode] 37)).cell? ⟨ws.heap.size, 1, none⟩ = some (.int .i64 x.loc) := cell_new rfl rfl
          have HS5 : Hid (SwAt w BB RR C (.slice (some ⟨gV, 0, none⟩) T.length capV) (.slice aoN cn capN) fa (swM k m T a l b) vs (ws.alloc (.cells #[.int .i64 x.op, .int .i64 x.loc, .int .i64 x.reg, .int .i64 x.val, .int .i64 x.mode] 37))) := HSb.out.keep hb45
          have cV5 := keep_cell hb45 cV
          have xz5 := (keep_frozen' hb45 (off := b * 5 + 1) (World.block_lt_of_cell? _ _ x1)).trans xz
          have x15 := keep_cell hb45 x1
          have c05 := HS5.out.c0
          obtain ⟨w5, hw5⟩ : ∃ x', x' = ws.alloc (.cells #[.int .i64 x.op, .int .i64 x.loc, .int .i64 x.reg, .int .i64 x.val, .int .i64 x.mode] 37) := ⟨_, rfl⟩
          rw [← hw5] at y0 y1 HS5 cV5 xz5 x15 c05 ⊢
          clear hw5 hb45 HSb cV c0 x0 x1 x2 x3 x4 xz
          by_cases h3 : x.op ≤ 3
          · cases hlk : x.loc == (k : Int)
            · cases hlm : x.loc == (m : Int)
              · have HP : Hid (SwAt w BB RR C (.slice (some ⟨gV, 0, none⟩) T.length capV) (.slice aoN cn capN) fa (swM k m T a l (b + 1)) vs w5) := by
                  unfold Hid
                  rw [swM_same HX.out (swI_no hlk hlm)]
                  exact HS5.out
                clear HS5
                go_wp2_with fail
                go_roundw
                case measure => simp [intOf]; omega
                case rel => exact ⟨b + 1, by omega, by go_num, HP.out⟩
              · have hV2 : (swM k m T a l b).length = T.length := swM_len _ _ _ _ _ _
                have HP : Hid (SwAt w BB RR C (.slice (some ⟨gV, 0, none⟩) T.length capV) (.slice aoN cn capN) fa (swM k m T a l (b + 1)) vs (w5.setCell ⟨g, b * 5 + 1, none⟩ (.int .i64 (k : Int)))) := by
                  unfold Hid
                  rw [swM_step HX.out, swI_m h0 h3 hlk hlm]
                  exact HS5.out.put (swM_get HL.out b) (swL_get HX.out) (by rw [swL_len]; exact HE1.out) hBC _
                clear HS5
                go_wp2_with fail
                go_roundw
                case measure => simp [intOf]; omega
                case rel => exact ⟨b + 1, by omega, by go_num, HP.out⟩
            · have hV2 : (swM k m T a l b).length = T.length := swM_len _ _ _ _ _ _
              have HP : Hid (SwAt w BB RR C (.slice (some ⟨gV, 0, none⟩) T.length capV) (.slice aoN cn capN) fa (swM k m T a l (b + 1)) vs (w5.setCell ⟨g, b * 5 + 1, none⟩ (.int .i64 (m : Int)))) := by
                unfold Hid
                rw [swM_step HX.out, swI_k h0 h3 hlk]
                exact HS5.out.put (swM_get HL.out b) (swL_get HX.out) (by rw [swL_len]; exact HE1.out) hBC _
              clear HS5
              go_wp2_with fail
              go_roundw
              case measure => simp [intOf]; omega
              case rel => exact ⟨b + 1, by omega, by go_num, HP.out⟩
          · have HP : Hid (SwAt w BB RR C (.slice (some ⟨gV, 0, none⟩) T.length capV) (.slice aoN cn capN) fa (swM k m T a l (b + 1)) vs w5) := by
              unfold Hid
              rw [swM_same HX.out (swI_op3 h3)]
              exact HS5.out
            clear HS5
            go_wp2_with fail
            go_roundw
            case measure => simp [intOf]; omega
            case rel => exact ⟨b + 1, by omega, by go_num, HP.out⟩
        · have hbI : ¬ (b : Int) < (l.length : Int) := by omega
          obtain rfl : b = l.length := by omega
          have HSN : Hid (SwAt w BB RR C (.slice (some ⟨gV, 0, none⟩) T.length capV) (.slice aoN cn capN) fa (swA k m T (a + 1)) vs ws) := by
            unfold Hid
            rw [swA_step HL.out]
            have := HSb.out
            unfold swM at this
            rw [swL_all] at this
            exact this
          clear HSb hrow e1 hsl
          go_wp2_with fail
          go_roundw
          case measure => simp [intOf]; omega
          case rel => exact ⟨a + 1, by omega, by go_num, HSN.out⟩
    · have haI : ¬ (a : Int) < (T.length : Int) := by omega
      obtain rfl : a = T.length := by omega
      rw [swA_all] at HS
      obtain ⟨li, hli⟩ := get_of_lt hi
      obtain ⟨lj, hlj⟩ := get_of_lt hj
      obtain ⟨aoi, ci, ei, cVi, _⟩ := HS.out.row (by unfold swU; rw [List.length_map]) (swU_get (k := k) (m := m) hli)
      obtain ⟨aoj, cj, ej, cVj, _⟩ := HS.out.row (by unfold swU; rw [List.length_map]) (swU_get (k := k) (m := m) hlj)
      rw [List.length_map] at ei cVi ej cVj
      have ho := HS.out.own
      have hUl : (swU k m T).length = T.length := by unfold swU; simp
      rw [hUl] at ho
      have fi : wr.frozen? ⟨gV, i, none⟩ = false := ho.frozenAt i
      have fj : wr.frozen? ⟨gV, j, none⟩ = false := ho.frozenAt j
      have c0 := HS.out.c0
      have hgC : gV < C := HS.out.bV gV rfl
      have hgB : BB ≤ gV := (ho.lt gV rfl).1
      have HE : Hid (vs[i]? = some (.slice aoi li.length ci) ∧ vs[j]? = some (.slice aoj lj.length cj) ∧ T[i]? = some li ∧ T[j]? = some lj) := ⟨ei, ej, hli, hlj⟩
      have HO : Hid (wr.ownsRow BB 34 1 (.slice (some ⟨gV, 0, none⟩) T.length capV) T.length vs) := ho
      clear ei ej hli hlj ho
      generalize hni : li.length = ni at *
      generalize hnj : lj.length = nj at *
      have HNN : Hid (li.length = ni ∧ lj.length = nj) := ⟨hni, hnj⟩
      clear hni hnj
      have hiI : (i : Int) < (T.length : Int) := by omega
      have hjI : (j : Int) < (T.length : Int) := by omega
      go_upto_region 14 with fail
      go_region
      have hs5 : ∀ b : Nat, b ≠ gV → (wr.setCell ⟨gV, i, none⟩ (.slice aoj nj cj)).drew.heap[b]? = wr.heap[b]? := fun b hb => heap_setCell_other wr ⟨gV, i, none⟩ b _ hb
      have HO5 : Hid ((wr.setCell ⟨gV, i, none⟩ (.slice aoj nj cj)).drew.ownsRow BB 34 1 (.slice (some ⟨gV, 0, none⟩) T.length capV) T.length (vs.set i (.slice aoj nj cj))) := own_other (HO.out.stored i (.slice aoj nj cj)).1 (fun b _ => rfl)
      have hb5 : Below w.heap.size w (wr.setCell ⟨gV, i, none⟩ (.slice aoj nj cj)).drew := (HS.out.below.setCell (by show w.heap.size ≤ gV; omega) _).drew
      obtain ⟨w5, hw5⟩ : ∃ x, x = (wr.setCell ⟨gV, i, none⟩ (.slice aoj nj cj)).drew := ⟨_, rfl⟩
      rw [← hw5] at hs5 HO5 hb5 ⊢
      clear hw5
      have n1 : ¬ C = gV := by omega
      have n2 : ¬ RR = gV := by omega
      have n3 : ¬ gV = C := by omega
      have n4 : ¬ gV = RR := by omega
      have n5 : ¬ C = RR := by omega
      have n6 : ¬ RR = C := by omega
      have d0 := cell_heap (hs5 C n1) HS.out.c0
      have d1 := cell_heap (hs5 C n1) HS.out.c1
      have d2 := cell_heap (hs5 C n1) HS.out.c2
      have d3 : w5.frozen? ⟨C, 2, none⟩ = false := (World.frozen?_of_block (w := wr) (hs5 C n1)).trans HS.out.z2
      have s0 := cell_heap (hs5 RR n2) HS.out.r0
      have s1 := cell_heap (hs5 RR n2) HS.out.r1
      have s2 := cell_heap (hs5 RR n2) HS.out.r2
      have t0 : w5.frozen? ⟨RR, 0, none⟩ = false := (World.frozen?_of_block (w := wr) (hs5 RR n2)).trans (HS.out.q 0)
      have t1 : w5.frozen? ⟨RR, 1, none⟩ = false := (World.frozen?_of_block (w := wr) (hs5 RR n2)).trans (HS.out.q 1)
      have t2 : w5.frozen? ⟨RR, 2, none⟩ = false := (World.frozen?_of_block (w := wr) (hs5 RR n2)).trans (HS.out.q 2)
      have v1 : w5.frozen? ⟨gV, j, none⟩ = false := HO5.out.frozenAt j
      obtain ⟨uo, v0⟩ : ∃ u, w5.cell? ⟨gV, j, none⟩ = some u := by
        have h1 := HO5.out.cellAt j (by omega)
        obtain ⟨u, hu⟩ := get_of_lt (l := vs.set i (.slice aoj nj cj)) (k := j) (by rw [List.length_set, HS.out.len, hUl]; exact hj)
        exact ⟨u, h1.trans hu⟩
      clear c0 cVi cVj fi fj
      go_wp2_with fail
      refine bodyPost_ret (v := .agg #[.slice (some ⟨gV, 0, none⟩) T.length capV, .bool fa, .slice none 0 0]) (by simp [results, Try.results16, go_sem, *]) rfl ⟨_, _, rfl, ⟨rfl, ?_, ⟨by simp, none, 0, 0, 0, rfl, fun h => absurd rfl h, fun _ => ⟨rfl, rfl⟩, fun k x h => by simp at h⟩⟩, ?_⟩
      · obtain ⟨ei, ej, hli, hlj⟩ := HE.out
        have hR := swT_ren T hi hj k m
        have hfin : ∀ b : Nat, b ≠ C → b ≠ RR → (((((w5.setCell ⟨gV, j, none⟩ (.slice aoi ni ci)).setCell ⟨C, 2, none⟩ (.slice none 0 0)).setCell ⟨RR, 0, none⟩ (.slice (some ⟨gV, 0, none⟩) T.length capV)).setCell ⟨RR, 1, none⟩ (.bool fa)).setCell ⟨RR, 2, none⟩ (.slice none 0 0)).heap[b]? = (w5.setCell ⟨gV, j, none⟩ (.slice aoi ni ci)).heap[b]? := fun b h1 h2 => by
          rw [Below.heap_setCell _ _ _ _ h2, Below.heap_setCell _ _ _ _ h2, Below.heap_setCell _ _ _ _ h2, Below.heap_setCell _ _ _ _ h1]
        refine thr_of_own (base := BB) (vs := (vs.set i (.slice aoj nj cj)).set j (.slice aoi ni ci)) (by rw [swT_len]; exact ht0) (by
          rw [swT_len]
          refine own_other (HO5.out.stored j (.slice aoi ni ci)).1 (fun b hb => ?_)
          have hgb : gV = b := by simpa [Value.ownBlock] using hb
          exact hfin b (by omega) (by omega)) (fun t l ht => ?_)
        · have htl : t < T.length := by have := (List.getElem?_eq_some_iff.1 ht).1; rw [swT_len] at this; exact this
          obtain ⟨q1, q2⟩ := hR.inv t htl
          obtain ⟨l0, hl0⟩ := get_of_lt q1
          have hrow := hR.row _ l0 hl0
          rw [q2, ht] at hrow
          have hll : l = l0.map (swI k m) := Option.some.inj hrow
          subst hll
          obtain ⟨u, u1, u2, u3⟩ := HS.out.rows.row (sigT i j t) _ (by rw [hUl]; exact q1) (swU_get (k := k) (m := m) hl0)
          refine ⟨u, ?_, ?_⟩
          · unfold sigT at u1
            by_cases hti : t = i
            · rw [if_pos hti] at u1
              subst hti
              by_cases htj : j = t
              · subst htj
                rw [List.getElem?_set_self (by rw [List.length_set, HS.out.len, hUl]; exact hj)]
                rw [← ei, ← u1]
              · rw [List.getElem?_set_ne htj, List.getElem?_set_self (by rw [HS.out.len, hUl]; exact hi)]
                rw [← ej, ← u1]
            · rw [if_neg hti] at u1
              by_cases htj : t = j
              · rw [if_pos htj] at u1
                subst htj
                rw [List.getElem?_set_self (by rw [List.length_set, HS.out.len, hUl]; exact hj), ← ei, ← u1]
              · rw [if_neg htj] at u1
                rw [List.getElem?_set_ne (fun e => htj e.symm), List.getElem?_set_ne (fun e => hti e.symm)]
                exact u1
          · refine owns_ins (by rw [List.length_map]; have := HOP.out.2 l0 (List.mem_of_getElem? hl0); omega) (own_other u2 (fun b hb => ?_))
            have hbg : b ≠ gV := fun e => u3 b hb (by rw [e]; rfl)
            have hbC := HS.out.bR _ u b u1 hb
            have hbB := (u2.lt b hb).1
            rw [hfin b (by omega) (by omega), heap_setCell_other w5 ⟨gV, j, none⟩ b _ hbg, hs5 b hbg]
      · exact ((((hb5.setCell (by show w.heap.size ≤ gV; omega) _).setCell (by show w.heap.size ≤ C; omega) _).setCell (by show w.heap.size ≤ RR; omega) _).setCell (by show w.heap.size ≤ RR; omega) _).setCell (by show w.heap.size ≤ RR; omega) _

end Go.Proofs.Ytomijmikkbhgmab
