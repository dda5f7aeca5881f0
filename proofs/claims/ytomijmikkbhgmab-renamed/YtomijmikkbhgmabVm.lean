import Derived.Test.YtomijmikkbhgmabT45
import Derived.Test.YtomijmikkbhgmabT40
namespace Go.Proofs.Ytomijmikkbhgmab
open Go.RowKit

theorem own_form1' {w : World} {base : Nat} {e : TypeId} {size : Nat} {v : Value} {n : Nat} {xs : List Value} (h : w.ownsRow base e size v n xs) : ∃ ao cap, v = .slice ao n cap := by
  rcases h.2 with ⟨rfl, rfl⟩ | ⟨g, cap, cur, hv, _⟩
  · exact ⟨none, 0, rfl⟩
  · exact ⟨_, cap, hv⟩
theorem own_some2 {w : World} {base : Nat} {e : TypeId} {size : Nat} {v : Value} {n : Nat} {xs : List Value} (h : w.ownsRow base e size v n xs) (hn : 0 < n) : ∃ g cap, v = .slice (some ⟨g, 0, none⟩) n cap := by
  rcases h.2 with ⟨rfl, rfl⟩ | ⟨g, cap, cur, hv, _⟩
  · omega
  · exact ⟨_, cap, hv⟩

theorem thr_of_own {w : World} {base : Nat} {V : Value} {T : List (List Ins)} {vs : List Value} (hT : T.length * 24 ≤ 140737488351232) (ho : w.ownsRow base 34 1 V T.length vs) (hr : ∀ (j : Nat) (l : List Ins), T[j]? = some l → ∃ u, vs[j]? = some u ∧ InsAt w u l) : ThrAt w V T := by
  refine ⟨hT, ?_⟩
  rcases ho.2 with ⟨hv, hn⟩ | ⟨g, cap, cur, hv, hg, hh, _⟩
  · have hT0 : T = [] := List.eq_nil_of_length_eq_zero hn
    subst hT0
    exact ⟨none, 0, 0, 0, hv, fun h => absurd rfl h, fun _ => ⟨rfl, rfl⟩, fun k x h => by simp at h⟩
  · refine ⟨_, g, 0, cap, hv, fun _ => rfl, fun h => by simp at h, fun k l hk => ?_⟩
    obtain ⟨u, h1, h2⟩ := hr k l hk
    have := ho.cells (g := g) (by rw [hv]; rfl) k u h1
    rw [Addr.add_lit] at this
    exact ⟨u, by rw [Nat.mul_one]; exact this, h2⟩

/-- What stands in a list between two places. -/
theorem flat_take5 {α β : Type} (f : α → List β) (s : Nat) (hf : ∀ x, (f x).length = s) (l : List α) (p : Nat) : (l.take p).flatMap f = (l.flatMap f).take (p * s) := by
  induction p generalizing l with
  | zero => simp
  | succ p ih =>
    cases l with
    | nil => simp
    | cons a l =>
      rw [List.take_succ_cons, List.flatMap_cons, List.flatMap_cons, ih, List.take_append, hf, List.take_of_length_le (l := f a) (by rw [hf, Nat.add_mul]; omega), Nat.add_mul, Nat.one_mul, Nat.add_sub_cancel]
theorem flat_drop5 {α β : Type} (f : α → List β) (s : Nat) (hf : ∀ x, (f x).length = s) (l : List α) (p : Nat) : (l.drop p).flatMap f = (l.flatMap f).drop (p * s) := by
  induction p generalizing l with
  | zero => simp
  | succ p ih =>
    cases l with
    | nil => simp
    | cons a l =>
      rw [List.drop_succ_cons, List.flatMap_cons, ih, List.drop_append, hf, List.drop_of_length_le (l := f a) (by rw [hf, Nat.add_mul]; omega), Nat.add_mul, Nat.one_mul, Nat.add_sub_cancel, List.nil_append]

/-- A copy one of whose threads has been changed for another one. -/
theorem cp_set {B R : Nat} {w3 w7 w9 : World} {gV capV : Nat} {T : List (List Ins)} {c : List Atm} {vs : List Value} {vc : Value} (hcp : CpAt B w3 (.slice (some ⟨gV, 0, none⟩) T.length capV) vc T c vs) (hR : R < B) (hb : Below w3.heap.size w3 w7) {i : Nat} {l' : List Ins} {v3 : Value} {M : Nat} (hT : T.length * 24 ≤ 140737488351232) (h40 : ∀ l ∈ T, l.length * 40 ≤ 140737488351232) (hl40 : l'.length * 40 ≤ 140737488351232)
    (ho : w7.ownsRow M 37 5 v3 l'.length (l'.flatMap insV)) (hM : w3.heap.size ≤ M) (hs : ∀ b : Nat, b ≠ R → b ≠ gV → w9.heap[b]? = w7.heap[b]?) (hg : w9.heap[gV]? = (w7.setCell ⟨gV, i, none⟩ v3).heap[gV]?) (fa : Bool) :
    TestAt w9 (.agg #[.slice (some ⟨gV, 0, none⟩) T.length capV, .bool fa, vc]) (T.set i l') fa c (.slice (some ⟨gV, 0, none⟩) T.length capV) vc := by
  have hgV : (Value.slice (some ⟨gV, 0, none⟩) T.length capV).ownBlock = some gV := rfl
  have hgl := hcp.own.lt gV hgV
  have own7 := own_keep hcp.own hb
  have own8 := (own7.stored i v3).1
  have own9 : w9.ownsRow B 34 1 (.slice (some ⟨gV, 0, none⟩) T.length capV) T.length (vs.set i v3) := own_other own8 (fun b hb' => by
    have : b = gV := by rw [hgV] at hb'; simpa using hb'.symm
    subst this
    exact hg)
  refine ⟨rfl, thr_of_own (base := B) (vs := vs.set i v3) (by rw [List.length_set]; exact hT) (by rw [List.length_set]; exact own9) (fun j l hj => ?_), ?_⟩
  · by_cases hij : i = j
    · subst hij
      have hi : i < T.length := by have := (List.getElem?_eq_some_iff.1 hj).1; simpa using this
      rw [List.getElem?_set_self hi] at hj
      cases hj
      refine ⟨v3, List.getElem?_set_self (by rw [hcp.len]; exact hi), owns_ins hl40 (own_other ho (fun b hb' => ?_))⟩
      have := (ho.lt b hb').1
      exact hs b (by omega) (by omega)
    · rw [List.getElem?_set_ne hij] at hj
      obtain ⟨u, h1, h2, h3⟩ := hcp.rows.row j l (List.getElem?_eq_some_iff.1 hj).1 hj
      refine ⟨u, by rw [List.getElem?_set_ne hij]; exact h1, ?_⟩
      have h4 : w9.ownsRow B 37 5 u l.length (l.flatMap insV) := own_other h2 (fun b hb' => by
        have h5 := h2.lt b hb'
        rw [hs b (by omega) (fun e => h3 b hb' (by rw [hgV, e])), hb.block b h5.2])
      exact owns_ins (h40 l (List.mem_of_getElem? hj)) h4
  · refine hcp.atm.other (fun b hb' => ?_)
    obtain ⟨h1, h2, h3, _⟩ := hcp.ab b hb'
    rw [hs b (by omega) (fun e => h3 (by rw [hgV, e])), hb.block b h2]

set_option maxRecDepth 20000 in
set_option maxHeartbeats 4000000 in
theorem more_any (T : List (List Ins)) (fa : Bool) (c : List Atm) (i p : Nat) (l : List Ins) (hl : T[i]? = some l) (hl12 : ∀ l ∈ T, l.length ≤ 12) (hT4 : T.length ≤ 4) (hp : p ≤ l.length) (z : Ins) (vt vc : Value) (w : World) (h : TestAt w (.agg #[vt, .bool fa, vc]) T fa c vt vc) (hcap : ThrCap w vt T) :
    Calls Try.prog 14 #[.agg #[vt, .bool fa, vc], .int .i64 i, .int .i64 p, .agg #[.int .i64 z.op, .int .i64 z.loc, .int .i64 z.reg, .int .i64 z.val, .int .i64 z.mode]] w fun e w' => ∃ vt' vc', e = .returned (.agg #[vt', .bool fa, vc']) ∧ TestAt w' (.agg #[vt', .bool fa, vc']) (T.set i (insI l p z)) fa c vt' vc' ∧ Below w.heap.size w w' := by
  have HC1 : Hid (∀ w', Below w.heap.size w w' → Calls Try.prog 27 #[.agg #[vt, .bool fa, vc]] w' fun e w'' => ∃ vt' vc', e = .returned (.agg #[vt', .bool fa, vc']) ∧ Hid (TestAt w'' (.agg #[vt', .bool fa, vc']) T fa c vt' vc' ∧ ∃ vs, CpAt w'.heap.size w'' vt' vc' T c vs) ∧ Below w'.heap.size w' w'') := fun w' hb => copy_new T fa c _ vt vc w' (h.keep hb)
  obtain ⟨i5, hi5, hy0, hy1, hy2⟩ := info_parts Try.infoInstr
  have HI5 : Hid (Try.prog.info? 37 = some i5 ∧ i5.zero = some (.agg #[.int .i64 0, .int .i64 0, .int .i64 0, .int .i64 0, .int .i64 0]) ∧ i5.size = 5 ∧ i5.bytes = 40) := ⟨hi5, hy0, hy1, hy2⟩
  clear hi5 hy0 hy1 hy2
  have hiT : i < T.length := (List.getElem?_eq_some_iff.1 hl).1
  have HL12 : Hid (∀ l ∈ T, l.length ≤ 12) := hl12
  replace hl12 := hl12 l (List.mem_of_getElem? hl)
  obtain ⟨ht0, aot, bt', offt', capt, htv, hta, _, htc⟩ := h.ht.opened
  obtain ⟨hc0, aoc, bc, offc, capc, hsc⟩ := h.hc
  have hcv := hsc.hv
  subst htv hcv
  obtain ⟨bt, offt, ao2, cap2, hao, c0, hil, hlc⟩ := hcap.opened hl
  subst hao
  obtain ⟨hl40, ao3, b3, off3, cap3, hs3⟩ := hil
  have hv3 := hs3.hv
  simp only [Value.slice.injEq] at hv3
  obtain ⟨rfl, -, rfl⟩ := hv3
  have HL : Hid (T[i]? = some l ∧ i < T.length ∧ T.length * 24 ≤ 140737488351232) := ⟨hl, hiT, ht0⟩
  have HS3 : Hid (∀ w', Below w.heap.size w w' → SlAt w' 5 InsC (.slice ao2 l.length cap2) l ao2 b3 off3 cap2) := fun w' hb => hs3.keep insC_keeps hb
  have HCE : Hid (∀ w', Below w.heap.size w w' → w'.cell? ⟨bt, offt + i, none⟩ = some (.slice ao2 l.length cap2)) := fun w' hb => keep_cell hb c0
  -- what is appended
  have HA1 : Hid (∀ w', Below w.heap.size w w' → ∀ ad, ao2 = some ad → ∀ j u, ((l.take p).flatMap insV)[j]? = some u → w'.cell? (ad.add j) = some u) := fun w' hb ad had j u hj => by
    refine ins_cells (HS3.out w' hb) ad had j u ?_
    rw [flat_take5 insV 5 (fun _ => rfl)] at hj
    have hjl := (List.getElem?_eq_some_iff.1 hj).1
    rw [List.length_take] at hjl
    rw [List.getElem?_take_of_lt (by omega)] at hj
    exact hj
  have HN1 : Hid (ao2 = none → p = 0 ∧ cap2 = 0) := fun e => ⟨by have := (HS3.out w (Below.refl _ _)).hn e; rw [this.1] at hp; simpa using hp, ((HS3.out w (Below.refl _ _)).hn e).2⟩
  have HA2 : Hid (∀ w', Below w.heap.size w w' → ∀ ad, (if cap2 = p then ao2 else ao2.map (·.add (p * 5))) = some ad → ∀ j u, ((l.drop p).flatMap insV)[j]? = some u → w'.cell? (ad.add j) = some u) := fun w' hb ad had j u hj => by
    have hne : l.drop p ≠ [] := fun e => by rw [e] at hj; simp at hj
    have hpl : p < l.length := by
      have := List.length_pos_iff.2 hne
      rw [List.length_drop] at this
      omega
    rw [if_neg (by omega)] at had
    rw [flat_drop5 insV 5 (fun _ => rfl), List.getElem?_drop] at hj
    have hsl := HS3.out w' hb
    have hao := hsl.ha (ne_nil hpl)
    rw [hao] at had
    simp at had
    have := ins_cells hsl _ hao _ _ hj
    rw [← had, Addr.add_lit, Addr.add_lit, Nat.add_assoc]
    rw [Addr.add_lit] at this
    exact this
  have HN2 : Hid ((if cap2 = p then ao2 else ao2.map (·.add (p * 5))) = none → l.length - p = 0 ∧ cap2 - p = 0) := fun e => by
    by_cases hc : cap2 = p
    · exact ⟨by omega, by omega⟩
    · rw [if_neg hc] at e
      have e' : ao2 = none := by simpa using e
      have := (HS3.out w (Below.refl _ _)).hn e'
      rw [this.1]
      simp
      omega
  have HLN : Hid ((l.take p).length = p ∧ (l.drop p).length = l.length - p ∧ (insI l p z).length = l.length + 1 ∧ (insI l p z).flatMap insV = (l.take p).flatMap insV ++ (insV z ++ (l.drop p).flatMap insV)) := by
    refine ⟨by rw [List.length_take]; omega, List.length_drop .., ?_, ?_⟩
    · unfold insI
      rw [List.length_append, List.length_cons, List.length_take, List.length_drop]
      omega
    · unfold insI
      rw [List.flatMap_append, List.flatMap_cons]
  clear h hsc htc hs3 c0 hl hta hcap HS3
  generalize hlen : l.length = ll at *
  have hpc : p ≤ cap2 := by omega
  have hba := below_three w (.cells #[.slice (some ⟨bt, offt, none⟩) T.length capt, .bool fa, .slice aoc c.length capc] 25) (.cells #[.int .i64 z.op, .int .i64 z.loc, .int .i64 z.reg, .int .i64 z.val, .int .i64 z.mode] 37) (.cells #[.slice none 0 0, .bool false, .slice none 0 0] 25)
  go_enter Try.func14, Try.ntmps14
  go_wp2_with fail
  refine (HC1.out _ hba).mono ?_
  rintro e w3 ⟨vt3, vc3, rfl, ht3, hb3⟩
  obtain ⟨vs, hcp⟩ := ht3.out.2
  obtain ⟨gV, capV, hV⟩ := own_some2 hcp.own (by omega)
  subst hV
  obtain ⟨aoN, capN, hvN⟩ : ∃ aoN capN, vc3 = .slice aoN c.length capN := by
    obtain ⟨_, a, b', o', k', hk'⟩ := hcp.atm
    exact ⟨a, k', hk'.hv⟩
  subst hvN
  have k1 := below_alloc (w.alloc (.cells #[.slice (some ⟨bt, offt, none⟩) T.length capt, .bool fa, .slice aoc c.length capc] 25)) (.cells #[.int .i64 z.op, .int .i64 z.loc, .int .i64 z.reg, .int .i64 z.val, .int .i64 z.mode] 37)
  have k2 := below_alloc ((w.alloc (.cells #[.slice (some ⟨bt, offt, none⟩) T.length capt, .bool fa, .slice aoc c.length capc] 25)).alloc (.cells #[.int .i64 z.op, .int .i64 z.loc, .int .i64 z.reg, .int .i64 z.val, .int .i64 z.mode] 37)) (.cells #[.slice none 0 0, .bool false, .slice none 0 0] 25)
  have e0 : w3.cell? ⟨w.heap.size, 0, none⟩ = some (.slice (some ⟨bt, offt, none⟩) T.length capt) := keep_cell hb3 (keep_cell (below_more k1 k2) (cell_new rfl rfl))
  have hsz : w.heap.size + 3 ≤ w3.heap.size := by have := hb3.size; simp only [World.size_alloc] at this; omega
  have x0 : w3.cell? ⟨w.heap.size + 1, 0, none⟩ = some (.int .i64 z.op) := keep_cell hb3 (keep_cell k2 (cell_new (by simp) rfl))
  have x1 : w3.cell? ⟨w.heap.size + 1, 1, none⟩ = some (.int .i64 z.loc) := keep_cell hb3 (keep_cell k2 (cell_new (by simp) rfl))
  have x2 : w3.cell? ⟨w.heap.size + 1, 2, none⟩ = some (.int .i64 z.reg) := keep_cell hb3 (keep_cell k2 (cell_new (by simp) rfl))
  have x3 : w3.cell? ⟨w.heap.size + 1, 3, none⟩ = some (.int .i64 z.val) := keep_cell hb3 (keep_cell k2 (cell_new (by simp) rfl))
  have x4 : w3.cell? ⟨w.heap.size + 1, 4, none⟩ = some (.int .i64 z.mode) := keep_cell hb3 (keep_cell k2 (cell_new (by simp) rfl))
  have f0 : ∀ j, w3.frozen? ⟨w.heap.size + 1 + 1, j, none⟩ = false := fun j => (keep_frozen' hb3 (by simp)).trans (frozen_new (by simp))
  have g0 : w3.cell? ⟨w.heap.size + 1 + 1, 0, none⟩ = some (.slice none 0 0) := keep_cell hb3 (cell_new (by simp) rfl)
  have g1 : w3.cell? ⟨w.heap.size + 1 + 1, 1, none⟩ = some (.bool false) := keep_cell hb3 (cell_new (by simp) rfl)
  have g2 : w3.cell? ⟨w.heap.size + 1 + 1, 2, none⟩ = some (.slice none 0 0) := keep_cell hb3 (cell_new (by simp) rfl)
  go_upto_region 2 with fail
  have hbw3 := below_more hba hb3
  have hb34 := below_alloc w3 (.cells #[.slice (some ⟨gV, 0, none⟩) T.length capV, .bool fa, .slice aoN c.length capN] 25)
  have c0 : (w3.alloc (.cells #[.slice (some ⟨gV, 0, none⟩) T.length capV, .bool fa, .slice aoN c.length capN] 25)).cell? ⟨w3.heap.size, 0, none⟩ = some (.slice (some ⟨gV, 0, none⟩) T.length capV) := cell_new rfl rfl
  have c1 : (w3.alloc (.cells #[.slice (some ⟨gV, 0, none⟩) T.length capV, .bool fa, .slice aoN c.length capN] 25)).cell? ⟨w3.heap.size, 1, none⟩ = some (.bool fa) := cell_new rfl rfl
  have c2 : (w3.alloc (.cells #[.slice (some ⟨gV, 0, none⟩) T.length capV, .bool fa, .slice aoN c.length capN] 25)).cell? ⟨w3.heap.size, 2, none⟩ = some (.slice aoN c.length capN) := cell_new rfl rfl
  have hs34 : w3.heap.size + 1 = (w3.alloc (.cells #[.slice (some ⟨gV, 0, none⟩) T.length capV, .bool fa, .slice aoN c.length capN] 25)).heap.size := by simp
  obtain ⟨w4, hw4⟩ : ∃ x, x = w3.alloc (.cells #[.slice (some ⟨gV, 0, none⟩) T.length capV, .bool fa, .slice aoN c.length capN] 25) := ⟨_, rfl⟩
  rw [← hw4] at hb34 c0 c1 c2 hs34 ⊢
  clear hw4
  have HS34 : Hid (w3.heap.size + 1 = w4.heap.size) := hs34
  have hs34' : w3.heap.size < w4.heap.size := by omega
  clear hs34
  have HCP : Hid (CpAt ((((w.alloc (.cells #[.slice (some ⟨bt, offt, none⟩) T.length capt, .bool fa, .slice aoc c.length capc] 25)).alloc (.cells #[.int .i64 z.op, .int .i64 z.loc, .int .i64 z.reg, .int .i64 z.val, .int .i64 z.mode] 37)).alloc (.cells #[.slice none 0 0, .bool false, .slice none 0 0] 25)).heap.size) w3 (.slice (some ⟨gV, 0, none⟩) T.length capV) (.slice aoN c.length capN) T c vs) := hcp
  have hbw4 := below_more hbw3 hb34
  -- what is kept while only new memory comes
  have HKP : Hid (∀ w', Below w4.heap.size w4 w' → (w'.cell? ⟨w.heap.size, 0, none⟩ = some (.slice (some ⟨bt, offt, none⟩) T.length capt) ∧ w'.cell? ⟨bt, offt + i, none⟩ = some (.slice ao2 ll cap2)) ∧ (w'.cell? ⟨w.heap.size + 1, 0, none⟩ = some (.int .i64 z.op) ∧ w'.cell? ⟨w.heap.size + 1, 1, none⟩ = some (.int .i64 z.loc) ∧ w'.cell? ⟨w.heap.size + 1, 2, none⟩ = some (.int .i64 z.reg) ∧ w'.cell? ⟨w.heap.size + 1, 3, none⟩ = some (.int .i64 z.val) ∧ w'.cell? ⟨w.heap.size + 1, 4, none⟩ = some (.int .i64 z.mode)) ∧ w'.cell? ⟨w3.heap.size, 0, none⟩ = some (.slice (some ⟨gV, 0, none⟩) T.length capV) ∧ w'.cell? ⟨w3.heap.size, 1, none⟩ = some (.bool fa) ∧ w'.cell? ⟨w3.heap.size, 2, none⟩ = some (.slice aoN c.length capN)) := fun w' hb =>
    ⟨⟨keep_cell hb (keep_cell hb34 e0), HCE.out w' (below_more hbw4 hb)⟩, ⟨keep_cell hb (keep_cell hb34 x0), keep_cell hb (keep_cell hb34 x1), keep_cell hb (keep_cell hb34 x2), keep_cell hb (keep_cell hb34 x3), keep_cell hb (keep_cell hb34 x4)⟩, keep_cell hb c0, keep_cell hb c1, keep_cell hb c2⟩
  have HFZ : Hid (∀ w', Below w4.heap.size w4 w' → (∀ j, w'.frozen? ⟨w.heap.size + 1 + 1, j, none⟩ = false) ∧ w'.cell? ⟨w.heap.size + 1 + 1, 0, none⟩ = some (.slice none 0 0) ∧ w'.cell? ⟨w.heap.size + 1 + 1, 1, none⟩ = some (.bool false) ∧ w'.cell? ⟨w.heap.size + 1 + 1, 2, none⟩ = some (.slice none 0 0)) := fun w' hb =>
    ⟨fun j => (keep_frozen' hb (by omega)).trans ((keep_frozen' hb34 (by omega)).trans (f0 j)), keep_cell hb (keep_cell hb34 g0), keep_cell hb (keep_cell hb34 g1), keep_cell hb (keep_cell hb34 g2)⟩
  clear e0 x0 x1 x2 x3 x4 f0 g0 g1 g2 c0 c1 c2 hcp ht3 k1 k2 hba HC1
  obtain ⟨⟨e0, e1⟩, ⟨x0, x1, x2, x3, x4⟩, c0, c1, c2⟩ := HKP.out w4 (Below.refl _ _)
  have hpi : ((p : Nat) : Int) ≤ (cap2 : Int) := by omega
  go_wp2_with (at_builtin; refine append_new _ rfl (.tmp 13) (.tmp 20) 34 rfl w4.heap.size 37 i5 (.agg #[.int .i64 0, .int .i64 0, .int .i64 0, .int .i64 0, .int .i64 0]) 5 40 Try.underlying34 HI5.out.1 HI5.out.2.1 HI5.out.2.2.1 HI5.out.2.2.2 rfl (by decide) (.slice none 0 0) 0 [] rfl (World.ownsRow_nil _ _ _ _) ao2 p cap2 ((l.take p).flatMap insV) rfl HN1.out (by rw [flat_len insV 5 (fun _ => rfl), HLN.out.1]) (HA1.out _ hbw4) (ins_one _) (by unfold maxLen; omega) (by omega) (by omega) ?_)
  intro v1 w5 hown1 hgrow1 _
  obtain ⟨ao5, cap5, hv5⟩ := own_form1' hown1
  subst hv5
  have hg5 : w4.grownBy w5 none := hgrow1
  have hb45 : Below w4.heap.size w4 w5 := ⟨hg5.os, hg5.tape, hg5.output, hg5.size, fun j hj => hg5.block j hj (by simp)⟩
  clear e0 e1 x0 x1 x2 x3 x4 c0 c1 c2 hgrow1 hg5
  obtain ⟨⟨e0, e1⟩, ⟨x0, x1, x2, x3, x4⟩, c0, c1, c2⟩ := HKP.out w5 hb45
  have hsz5 := hb45.size
  have HO1 : Hid (w5.ownsRow w4.heap.size 37 5 (.slice ao5 p cap5) p ((l.take p).flatMap insV)) := hown1
  clear hown1
  go_wp2_with (at_builtin; refine append_new _ rfl (.tmp 22) (.tmp 24) 34 rfl w4.heap.size 37 i5 (.agg #[.int .i64 0, .int .i64 0, .int .i64 0, .int .i64 0, .int .i64 0]) 5 40 Try.underlying34 HI5.out.1 HI5.out.2.1 HI5.out.2.2.1 HI5.out.2.2.2 rfl (by decide) (.slice ao5 p cap5) p ((l.take p).flatMap insV) rfl (HO1.out.alloc _) (some ⟨w5.heap.size, 0, none⟩) 1 1 (insV z) rfl (fun h => by cases h) rfl (fun ad had => by cases had; exact new_many rfl) (by simp [Value.oneCell', insV]) (by unfold maxLen; omega) (by omega) (by simp; omega) ?_)
  intro v2 w6 hown2 hgrow2 _
  obtain ⟨ao6, cap6, hv6⟩ := own_form1' hown2
  subst hv6
  have hb46 : Below w4.heap.size w4 w6 := by
    refine Below.grown ((hb45.alloc hb45.size _)) hgrow2 (by simp; omega) (fun k e => ?_)
    have := (HO1.out.lt k e).1
    omega
  clear e0 e1 x0 x1 x2 x3 x4 c0 c1 c2 hgrow2 hb45 HO1
  obtain ⟨⟨e0, e1⟩, _, c0, c1, c2⟩ := HKP.out w6 hb46
  have hsz6 := hb46.size
  have HO2 : Hid (w6.ownsRow w4.heap.size 37 5 (.slice ao6 (p + 1) cap6) (p + 1) ((l.take p).flatMap insV ++ insV z)) := hown2
  clear hown2
  have hpl : ((p : Nat) : Int) ≤ (ll : Int) := by omega
  have HBR : Hid (w.heap.size + 1 + 1 < (((w.alloc (.cells #[.slice (some ⟨bt, offt, none⟩) T.length capt, .bool fa, .slice aoc c.length capc] 25)).alloc (.cells #[.int .i64 z.op, .int .i64 z.loc, .int .i64 z.reg, .int .i64 z.val, .int .i64 z.mode] 37)).alloc (.cells #[.slice none 0 0, .bool false, .slice none 0 0] 25)).heap.size) := by
    simp only [World.size_alloc]; exact Nat.lt_succ_self _
  generalize (((w.alloc (.cells #[.slice (some ⟨bt, offt, none⟩) T.length capt, .bool fa, .slice aoc c.length capc] 25)).alloc (.cells #[.int .i64 z.op, .int .i64 z.loc, .int .i64 z.reg, .int .i64 z.val, .int .i64 z.mode] 37)).alloc (.cells #[.slice none 0 0, .bool false, .slice none 0 0] 25)).heap.size = BB at HCP HBR
  have hgV3 : gV < w3.heap.size ∧ BB ≤ gV := ⟨(HCP.out.own.lt gV rfl).2, (HCP.out.own.lt gV rfl).1⟩
  have hgR : w.heap.size + 1 + 1 < gV := by have := HBR.out; omega
  have hb36 : Below w3.heap.size w3 w6 := below_more hb34 hb46
  have HO0 : Hid (w6.ownsRow BB 34 1 (.slice (some ⟨gV, 0, none⟩) T.length capV) T.length vs) := own_keep HCP.out.own hb36
  have HKL : Hid (l.length = ll) := hlen
  clear hlen
  by_cases hc2 : cap2 = p
  · replace hc2 := hc2.symm
    subst hc2
    rw [if_pos rfl] at HA2 HN2
    go_wp2_with (at_builtin; refine append_new _ rfl (.tmp 26) (.tmp 33) 34 rfl w4.heap.size 37 i5 (.agg #[.int .i64 0, .int .i64 0, .int .i64 0, .int .i64 0, .int .i64 0]) 5 40 Try.underlying34 HI5.out.1 HI5.out.2.1 HI5.out.2.2.1 HI5.out.2.2.2 rfl (by decide) (.slice ao6 (p + 1) cap6) (p + 1) ((l.take p).flatMap insV ++ insV z) rfl HO2.out _ _ _ ((l.drop p).flatMap insV) rfl (fun e => ⟨by omega, by omega⟩) (by rw [flat_len insV 5 (fun _ => rfl), HLN.out.2.1]; omega) (HA2.out _ (below_more hbw4 hb46)) (ins_one _) (by unfold maxLen; omega) (by omega) (by omega) ?_)
    intro v3 w7 hown3 hgrow3 _
    replace hown3 : w7.ownsRow w4.heap.size 37 5 v3 (ll + 1) ((insI l p z).flatMap insV) := by
      rw [show ll + 1 = p + 1 by omega, HLN.out.2.2.2]
      first
        | exact hown3
        | (rw [← List.append_assoc]; exact hown3)
    obtain ⟨ao7, cap7, hv7⟩ := own_form1' hown3
    subst hv7
    have hb47 : Below w4.heap.size w4 w7 := Below.grown hb46 hgrow3 hb46.size (fun k e => (HO2.out.lt k e).1)
    clear e0 e1 c0 c1 c2 hgrow3
    obtain ⟨_, _, c0, c1, c2⟩ := HKP.out w7 hb47
    obtain ⟨f0, g0, g1, g2⟩ := HFZ.out w7 hb47
    have hb37 : Below w3.heap.size w3 w7 := below_more hb34 hb47
    have HO3 : Hid (w7.ownsRow w4.heap.size 37 5 (.slice ao7 (ll + 1) cap7) (ll + 1) ((insI l p z).flatMap insV)) := hown3
    have HO7 : Hid (w7.ownsRow BB 34 1 (.slice (some ⟨gV, 0, none⟩) T.length capV) T.length vs) := own_keep HCP.out.own hb37
    have v0 : ∃ u, w7.cell? ⟨gV, i, none⟩ = some u := by
      have h1 := HO7.out.cellAt i (by omega)
      obtain ⟨u, hu⟩ := get_of_lt (l := vs) (k := i) (by rw [HCP.out.len]; exact hiT)
      exact ⟨u, h1.trans hu⟩
    obtain ⟨uo, v0⟩ := v0
    have v1 : w7.frozen? ⟨gV, i, none⟩ = false := HO7.out.frozenAt i
    have f00 := f0 0
    have f01 := f0 1
    have f02 := f0 2
    have n1 : ¬ gV = w3.heap.size := by omega
    have n2 : ¬ gV = w.heap.size + 1 + 1 := by omega
    have n3 : ¬ w3.heap.size = gV := by omega
    have n4 : ¬ w.heap.size + 1 + 1 = gV := by omega
    clear hown3 HO0 HO2 HO7 hb46 hb36 hb47 HKP HFZ HCE HA1 HA2 HN1 HN2 f0
    go_wp2_with fail
    refine bodyPost_ret (v := .agg #[.slice (some ⟨gV, 0, none⟩) T.length capV, .bool fa, .slice aoN c.length capN]) (by simp [results, Try.results14, go_sem, *]) rfl ⟨_, _, rfl, ?_, ?_⟩
    · refine cp_set (M := w4.heap.size) (R := w.heap.size + 1 + 1) HCP.out HBR.out hb37 ht0 (fun l hl => by have := HL12.out l hl; omega) (by rw [HLN.out.2.2.1]; omega) (by rw [HLN.out.2.2.1]; exact HO3.out) (by omega) (fun b h1 h2 => ?_) ?_ fa
      · rw [Below.heap_setCell _ _ _ _ h1, Below.heap_setCell _ _ _ _ h1, Below.heap_setCell _ _ _ _ h1, Below.heap_setCell _ _ _ _ h2]
      · rw [Below.heap_setCell _ _ _ _ n2, Below.heap_setCell _ _ _ _ n2, Below.heap_setCell _ _ _ _ n2]
    · have hbw7 : Below w.heap.size w w7 := below_more hbw3 hb37
      exact (((hbw7.setCell (by show w.heap.size ≤ gV; omega) _).setCell (by show w.heap.size ≤ w.heap.size + 1 + 1; omega) _).setCell (by show w.heap.size ≤ w.heap.size + 1 + 1; omega) _).setCell (by show w.heap.size ≤ w.heap.size + 1 + 1; omega) _
  · have hc3 : ¬ p = cap2 := fun e => hc2 e.symm
    have hAO : (if cap2 = p then ao2 else ao2.map (·.add (p * 5))) = ao2.map (·.add (p * 5)) := if_neg hc2
    rw [hAO] at HA2 HN2
    clear hAO
    go_wp2_with (at_builtin; refine append_new _ rfl (.tmp 26) (.tmp 33) 34 rfl w4.heap.size 37 i5 (.agg #[.int .i64 0, .int .i64 0, .int .i64 0, .int .i64 0, .int .i64 0]) 5 40 Try.underlying34 HI5.out.1 HI5.out.2.1 HI5.out.2.2.1 HI5.out.2.2.2 rfl (by decide) (.slice ao6 (p + 1) cap6) (p + 1) ((l.take p).flatMap insV ++ insV z) rfl HO2.out (ao2.map (·.add (p * 5))) (ll - p) (cap2 - p) ((l.drop p).flatMap insV) rfl HN2.out (by rw [flat_len insV 5 (fun _ => rfl), HLN.out.2.1]) (HA2.out _ (below_more hbw4 hb46)) (ins_one _) (by unfold maxLen; omega) (by omega) (by omega) ?_)
    intro v3 w7 hown3 hgrow3 _
    have hll : p + 1 + (ll - p) = ll + 1 := by omega
    rw [hll, ← HLN.out.2.2.2] at hown3
    obtain ⟨ao7, cap7, hv7⟩ := own_form1' hown3
    subst hv7
    have hb47 : Below w4.heap.size w4 w7 := Below.grown hb46 hgrow3 hb46.size (fun k e => (HO2.out.lt k e).1)
    clear e0 e1 c0 c1 c2 hgrow3
    obtain ⟨_, _, c0, c1, c2⟩ := HKP.out w7 hb47
    obtain ⟨f0, g0, g1, g2⟩ := HFZ.out w7 hb47
    have hb37 : Below w3.heap.size w3 w7 := below_more hb34 hb47
    have HO3 : Hid (w7.ownsRow w4.heap.size 37 5 (.slice ao7 (ll + 1) cap7) (ll + 1) ((insI l p z).flatMap insV)) := hown3
    have HO7 : Hid (w7.ownsRow BB 34 1 (.slice (some ⟨gV, 0, none⟩) T.length capV) T.length vs) := own_keep HCP.out.own hb37
    have v0 : ∃ u, w7.cell? ⟨gV, i, none⟩ = some u := by
      have h1 := HO7.out.cellAt i (by omega)
      obtain ⟨u, hu⟩ := get_of_lt (l := vs) (k := i) (by rw [HCP.out.len]; exact hiT)
      exact ⟨u, h1.trans hu⟩
    obtain ⟨uo, v0⟩ := v0
    have v1 : w7.frozen? ⟨gV, i, none⟩ = false := HO7.out.frozenAt i
    have f00 := f0 0
    have f01 := f0 1
    have f02 := f0 2
    have n1 : ¬ gV = w3.heap.size := by omega
    have n2 : ¬ gV = w.heap.size + 1 + 1 := by omega
    have n3 : ¬ w3.heap.size = gV := by omega
    have n4 : ¬ w.heap.size + 1 + 1 = gV := by omega
    clear hown3 HO0 HO2 HO7 hb46 hb36 hb47 HKP HFZ HCE HA1 HA2 HN1 HN2 f0
    go_wp2_with fail
    refine bodyPost_ret (v := .agg #[.slice (some ⟨gV, 0, none⟩) T.length capV, .bool fa, .slice aoN c.length capN]) (by simp [results, Try.results14, go_sem, *]) rfl ⟨_, _, rfl, ?_, ?_⟩
    · refine cp_set (M := w4.heap.size) (R := w.heap.size + 1 + 1) HCP.out HBR.out hb37 ht0 (fun l hl => by have := HL12.out l hl; omega) (by rw [HLN.out.2.2.1]; omega) (by rw [HLN.out.2.2.1]; exact HO3.out) (by omega) (fun b h1 h2 => ?_) ?_ fa
      · rw [Below.heap_setCell _ _ _ _ h1, Below.heap_setCell _ _ _ _ h1, Below.heap_setCell _ _ _ _ h1, Below.heap_setCell _ _ _ _ h2]
      · rw [Below.heap_setCell _ _ _ _ n2, Below.heap_setCell _ _ _ _ n2, Below.heap_setCell _ _ _ _ n2]
    · have hbw7 : Below w.heap.size w w7 := below_more hbw3 hb37
      exact (((hbw7.setCell (by show w.heap.size ≤ gV; omega) _).setCell (by show w.heap.size ≤ w.heap.size + 1 + 1; omega) _).setCell (by show w.heap.size ≤ w.heap.size + 1 + 1; omega) _).setCell (by show w.heap.size ≤ w.heap.size + 1 + 1; omega) _

end Go.Proofs.Ytomijmikkbhgmab
