import Derived.Test.YtomijmikkbhgmabT41
namespace Go.Proofs.Ytomijmikkbhgmab

/-! the last Read into a register -/
def hitB (y z : Evt) : Bool := z.kind == 0 && z.thread == y.thread && z.ins.reg == y.ins.reg

theorem srcG_nil0 (y : Evt) (l : List Evt) (i : Nat) (a : Int) (h : ∀ (d : Nat) (z : Evt), l[d]? = some z → hitB y z = false) : srcG y l i a = a := by
  induction l generalizing i a with
  | nil => rfl
  | cons z l ih =>
    have h0 : (z.kind == 0 && z.thread == y.thread && z.ins.reg == y.ins.reg) = false := h 0 z rfl
    rw [srcG, h0]
    exact ih (i + 1) a (fun d z hz => h (d + 1) z (by simpa using hz))
theorem srcG_last (y : Evt) (l : List Evt) (i : Nat) (a : Int) (c : Nat) (z : Evt) (hc : l[c]? = some z) (hz : hitB y z = true) (h : ∀ (d : Nat) (z : Evt), c < d → l[d]? = some z → hitB y z = false) : srcG y l i a = ((i + c : Nat) : Int) := by
  induction l generalizing i a c with
  | nil => simp at hc
  | cons u l ih =>
    cases c with
    | zero =>
      simp at hc
      subst hc
      have h0 : (u.kind == 0 && u.thread == y.thread && u.ins.reg == y.ins.reg) = true := hz
      rw [srcG, h0]
      rw [srcG_nil0 y l (i + 1) _ (fun d z hd => h (d + 1) z (by omega) (by simpa using hd))]
      rfl
    | succ c =>
      rw [srcG, ih (i + 1) _ c (by simpa using hc) (fun d z hd hz => h (d + 1) z (by omega) (by simpa using hz))]
      omega
theorem last_hit (y : Evt) (l : List Evt) : (∀ (d : Nat) (z : Evt), l[d]? = some z → hitB y z = false) ∨ ∃ (c : Nat) (z : Evt), l[c]? = some z ∧ hitB y z = true ∧ ∀ (d : Nat) (z : Evt), c < d → l[d]? = some z → hitB y z = false := by
  induction l with
  | nil => exact .inl fun d z h => by simp at h
  | cons u l ih =>
    rcases ih with h | ⟨c, z, h1, h2, h3⟩
    · cases hu : hitB y u
      · refine .inl fun d z hz => ?_
        cases d with
        | zero => simp at hz; subst hz; exact hu
        | succ d => exact h d z (by simpa using hz)
      · refine .inr ⟨0, u, rfl, hu, fun d z hd hz => ?_⟩
        cases d with
        | zero => omega
        | succ d => exact h d z (by simpa using hz)
    · refine .inr ⟨c + 1, z, by simpa using h1, h2, fun d z hd hz => ?_⟩
      cases d with
      | zero => omega
      | succ d => exact h3 d z (by omega) (by simpa using hz)

theorem tr_hit {k m : Int} {a : Nat} {y y' z : Evt} (hr : y'.ins.reg = y.ins.reg) (ht : ((a : Int) == y'.thread) = (z.thread == y.thread)) : hitB y' (trE k m a z) = hitB y z := by
  unfold hitB trE
  simp only [swI_reg, hr]
  rw [ht]

theorem srcG_pi {T T' : List (List Ins)} {σ : Nat → Nat} {k m : Int} (h : Ren T T' σ k m) {y y' : Evt} {a : Nat} (ha : a < T.length) (hy : y.thread = (a : Int)) (hy' : y'.thread = ((σ a : Nat) : Int)) (hreg : y'.ins.reg = y.ins.reg) (J J' : Nat) (hb : ∀ (d : Nat) (z : Evt), (evsT T 0)[d]? = some z → z.thread = (a : Int) → (d < J ↔ piE T T' σ d < J')) :
    srcG y' ((evsT T' 0).take J') 0 (-1) = piI T T' σ (srcG y ((evsT T 0).take J) 0 (-1)) := by
  have hth : ∀ z ∈ evsT T 0, ((((σ z.thread.toNat : Nat) : Int)) == y'.thread) = (z.thread == y.thread) := fun z hz => by
    obtain ⟨i, _, _, h1, _, _, h4, _⟩ := evsT_mem hz
    have hi : i < T.length := by have := (List.getElem?_eq_some_iff.1 h4).1; omega
    rw [hy, hy', h1, Int.toNat_natCast]
    rw [Bool.eq_iff_iff, beq_iff_eq, beq_iff_eq]
    constructor
    · intro e
      have e' : σ i = σ a := by omega
      have := congrArg σ e'
      rw [(h.inv i hi).2, (h.inv a ha).2] at this
      omega
    · intro e
      have : i = a := by omega
      rw [this]
  -- a hit over there is one here
  have back : ∀ (d' : Nat) (z' : Evt), ((evsT T' 0).take J')[d']? = some z' → hitB y' z' = true → ∃ z, ((evsT T 0).take J)[piE T' T σ d']? = some z ∧ hitB y z = true ∧ piE T T' σ (piE T' T σ d') = d' ∧ (evsT T' 0)[d']? = some z' := fun d' z' hz' hh => by
    have hdl := (List.getElem?_eq_some_iff.1 hz').1
    rw [List.length_take] at hdl
    rw [List.getElem?_take_of_lt (by omega)] at hz'
    have hz := ren_ev h.symm hz'
    have hinv := piE_inv h.symm (e := d') (by omega)
    have h2 := ren_ev h hz
    rw [hinv, hz'] at h2
    have h3 : z' = trE k m (σ (trE k m (σ z'.thread.toNat) z').thread.toNat) (trE k m (σ z'.thread.toNat) z') := Option.some.inj h2
    have hh2 : hitB y (trE k m (σ z'.thread.toNat) z') = true := by
      rw [← tr_hit (k := k) (m := m) (a := σ (trE k m (σ z'.thread.toNat) z').thread.toNat) hreg (hth _ (List.mem_of_getElem? hz)), ← h3]
      exact hh
    have ht2 : (trE k m (σ z'.thread.toNat) z').thread = (a : Int) := by
      unfold hitB at hh2
      simp only [Bool.and_eq_true, beq_iff_eq] at hh2
      rw [hh2.1.2, hy]
    have hlt : piE T' T σ d' < J := (hb _ _ hz ht2).2 (by rw [hinv]; omega)
    exact ⟨_, by rw [List.getElem?_take_of_lt hlt]; exact hz, hh2, hinv, hz'⟩
  rcases last_hit y ((evsT T 0).take J) with hn | ⟨c, z, h1, h2, h3⟩
  · rw [srcG_nil0 y _ 0 (-1) hn, piI_neg]
    refine srcG_nil0 y' _ 0 (-1) fun d' z' hz' => ?_
    cases hh : hitB y' z'
    · rfl
    · obtain ⟨z, hz, hhz, _⟩ := back d' z' hz' hh
      rw [hn _ z hz] at hhz
      cases hhz
  · rw [srcG_last y _ 0 (-1) c z h1 h2 h3, Nat.zero_add, piI_nat]
    have hcl := (List.getElem?_eq_some_iff.1 h1).1
    rw [List.length_take] at hcl
    have hz0 : (evsT T 0)[c]? = some z := by rw [← h1, List.getElem?_take_of_lt (by omega)]
    have hzt : z.thread = (a : Int) := by
      unfold hitB at h2
      simp only [Bool.and_eq_true, beq_iff_eq] at h2
      rw [h2.1.2, hy]
    have hlt := (hb c z hz0 hzt).1 (by omega)
    rw [srcG_last y' _ 0 (-1) (piE T T' σ c) (trE k m (σ z.thread.toNat) z) (by rw [List.getElem?_take_of_lt hlt]; exact ren_ev h hz0) (by rw [tr_hit hreg (hth z (List.mem_of_getElem? hz0))]; exact h2) (fun d' z' hd hz' => ?_), Nat.zero_add]
    cases hh : hitB y' z'
    · rfl
    · obtain ⟨u, hu, hhu, hinv, hz0'⟩ := back d' z' hz' hh
      have hcd : c < piE T' T σ d' := by
        have hth1 : (trE k m (σ z.thread.toNat) z).thread = z'.thread := by
          unfold hitB at hh
          simp only [Bool.and_eq_true, beq_iff_eq] at hh
          rw [hh.1.2, hy']
          show ((σ z.thread.toNat : Nat) : Int) = _
          rw [hzt, Int.toNat_natCast]
        have := piE_mono (T' := T) (σ := σ) (ren_ev h hz0) hz0' hth1 hd
        rw [piE_inv h (List.getElem?_eq_some_iff.1 hz0).1] at this
        exact this
      rw [h3 _ u hcd hu] at hhu
      cases hhu

/-! arrows -/
theorem cyc_pi {n : Nat} {A A' : List (Int × Int)} {π ρ : Nat → Nat} (h1 : ∀ a, a < n → π a < n ∧ ρ (π a) = a) (h2 : ∀ a, a < n → ρ a < n ∧ π (ρ a) = a) (h : ∀ a b : Nat, a < n → b < n → ((a : Int), (b : Int)) ∈ A' → ((ρ a : Int), (ρ b : Int)) ∈ A) (hc : Cyc n A') : Cyc n A := by
  obtain ⟨S, ⟨b, hb, hS⟩, hC⟩ := hc
  refine ⟨fun e => S (π e), ⟨ρ b, (h2 b hb).1, by show S (π (ρ b)); rw [(h2 b hb).2]; exact hS⟩, fun e he hSe => ?_⟩
  obtain ⟨a, ha, hSa, harr⟩ := hC (π e) (h1 e he).1 hSe
  refine ⟨ρ a, (h2 a ha).1, by show S (π (ρ a)); rw [(h2 a ha).2]; exact hSa, ?_⟩
  have := h a (π e) ha (h1 e he).1 harr
  rw [(h1 e he).2] at this
  exact this

theorem same_tr {T T' : List (List Ins)} {σ : Nat → Nat} {k m : Int} (h : Ren T T' σ k m) {a b : Nat} {ya yb : Evt} (ha : (evsT T 0)[a]? = some ya) (hb : (evsT T 0)[b]? = some yb) : ((trE k m (σ ya.thread.toNat) ya).thread = (trE k m (σ yb.thread.toNat) yb).thread ↔ ya.thread = yb.thread) := by
  obtain ⟨i, l, _, h1, _, _, h4⟩ := ev_find ha
  obtain ⟨j, l', _, h1', _, _, h4'⟩ := ev_find hb
  have hi := (List.getElem?_eq_some_iff.1 h1).1
  have hj := (List.getElem?_eq_some_iff.1 h1').1
  show ((σ ya.thread.toNat : Nat) : Int) = ((σ yb.thread.toNat : Nat) : Int) ↔ _
  rw [h4, h4', Int.toNat_natCast, Int.toNat_natCast]
  constructor
  · intro e
    have e' : σ i = σ j := by omega
    have := congrArg σ e'
    rw [(h.inv i hi).2, (h.inv j hj).2] at this
    omega
  · intro e
    have : i = j := by omega
    rw [this]

theorem same_tr_loc {T : List (List Ins)} {k m : Int} {a b i j : Nat} {ya yb : Evt} (ha : (evsT T 0)[a]? = some ya) (hb : (evsT T 0)[b]? = some yb) : sameB (trE k m i ya) (trE k m j yb) = sameB ya yb := by
  unfold sameB
  show (memB ya.kind && memB yb.kind && (trE k m i ya).loc == (trE k m j yb).loc) = _
  cases h1 : memB ya.kind
  · rfl
  · cases h2 : memB yb.kind
    · rfl
    · unfold memB at h1 h2
      simp only [Bool.or_eq_true, beq_iff_eq] at h1 h2
      rw [ev_loc ha h1, ev_loc hb h2]
      simp only [Bool.true_and]
      rw [Bool.eq_iff_iff, beq_iff_eq, beq_iff_eq]
      exact ⟨fun e => lamL_inj e, fun e => by rw [e]⟩

/-- The arrows of an execution over there are those of this one. -/
theorem exQ_pi {T T' : List (List Ins)} {σ : Nat → Nat} {k m : Int} (h : Rn T T' σ k m) {x : Exe} (hx : IsEx (evsT T 0) x) {a b : Nat} (ha : a < (evsT T 0).length) (hb : b < (evsT T 0).length) : ((piE T T' σ a : Int), (piE T T' σ b : Int)) ∈ exQ (evsT T' 0) (phiX T T' σ k m x) ↔ ((a : Int), (b : Int)) ∈ exQ (evsT T 0) x := by
  obtain ⟨ya, hya⟩ := get_of_lt ha
  obtain ⟨yb, hyb⟩ := get_of_lt hb
  have hya' := ren_ev h.r hya
  have hyb' := ren_ev h.r hyb
  unfold exQ
  rw [allS_mem, allS_mem, ren_len h.r]
  have hS := phi_src h hx hb
  have e1 : exF (evsT T' 0) (rkX (evsT T' 0) (phiX T T' σ k m x)) (piE T T' σ a) (piE T T' σ b) = exF (evsT T 0) (rkX (evsT T 0) x) a b := by
    unfold exF
    rw [pairB_get hya' hyb', pairB_get hya hyb, same_tr_loc hya hyb]
    show (yb.kind == 1 && _) = (yb.kind == 1 && _)
    cases h1 : yb.kind == 1
    · rfl
    · cases h2 : sameB ya yb
      · rfl
      · have hkb : yb.kind = 1 := by simpa using h1
        have hka : ya.kind = 0 ∨ ya.kind = 1 := by
          unfold sameB memB at h2
          simp only [Bool.and_eq_true, Bool.or_eq_true, beq_iff_eq] at h2
          exact h2.1.1
        rw [phi_rank h hx hya hka, phi_rank h hx hyb (.inr hkb)]
  have hl := ren_len h.r
  have e1' : exF (evsT T' 0) (rankG (evsT T 0).length (srcL (evsT T' 0) (phiX T T' σ k m x).from') (phiX T T' σ k m x).order) (piE T T' σ a) (piE T T' σ b) = exF (evsT T 0) (rankG (evsT T 0).length (srcL (evsT T 0) x.from') x.order) a b := by
    have := e1
    unfold rkX at this
    rw [hl] at this
    exact this
  have hSS : (srcL (evsT T' 0) (phiX T T' σ k m x).from').getD (piE T T' σ b) 0 = piI T T' σ ((srcL (evsT T 0) x.from').getD b 0) := hS
  have hiff : (srcL (evsT T' 0) (phiX T T' σ k m x).from').getD (piE T T' σ b) 0 = ((piE T T' σ a : Nat) : Int) ↔ (srcL (evsT T 0) x.from').getD b 0 = (a : Int) := by
    rw [hSS]
    have hr := hx.ranks h.f.el h.f.locs
    constructor
    · intro e
      by_cases hk : yb.kind = 0
      · rcases hr.read b yb hyb hk with ⟨s1, _⟩ | ⟨f, _, s1, s2, _, _⟩
        · rw [s1, piI_neg] at e; omega
        · rw [s1, piI_nat] at e
          have := piE_inj h.r s2 ha (by omega)
          rw [s1, this]
      · have s1 := hr.other b yb hyb hk
        rw [s1, piI_neg] at e; omega
    · intro e
      rw [e, piI_nat]
  have hpa := piE_lt h.r ha
  have hpb := piE_lt h.r hb
  rw [hl] at hpa hpb
  constructor
  · rintro ⟨_, q | ⟨_, q⟩⟩
    · exact ⟨hb, .inl (hiff.1 q)⟩
    · exact ⟨hb, .inr ⟨ha, by rw [← e1']; exact q⟩⟩
  · rintro ⟨_, q | ⟨_, q⟩⟩
    · exact ⟨hpb, .inl (hiff.2 q)⟩
    · exact ⟨hpb, .inr ⟨hpa, by rw [e1']; exact q⟩⟩

end Go.Proofs.Ytomijmikkbhgmab

namespace Go.Proofs.Ytomijmikkbhgmab

theorem fen_sw {k m : Int} (l : List Ins) {a b a' b' : Evt} (h1 : a'.place = a.place) (h2 : b'.place = b.place) (h3 : a'.kind = a.kind) (h4 : b'.kind = b.kind) : fenB (l.map (swI k m)) a' b' = fenB l a b := by
  unfold fenB
  rw [h1, h2, ← List.map_take, ← List.map_drop, List.any_map]
  congr 1
  funext z
  unfold fen1
  simp only [Function.comp, swI_op, swI_mode, h3, h4]

theorem piE_iff {T T' : List (List Ins)} {σ : Nat → Nat} {k m : Int} (h : Ren T T' σ k m) {a b : Nat} {ya yb : Evt} (ha : (evsT T 0)[a]? = some ya) (hb : (evsT T 0)[b]? = some yb) (ht : ya.thread = yb.thread) : piE T T' σ a < piE T T' σ b ↔ a < b := by
  refine ⟨fun hl => ?_, fun hl => piE_mono ha hb ht hl⟩
  have := piE_mono (T' := T) (σ := σ) (ren_ev h ha) (ren_ev h hb) ((same_tr h ha hb).2 ht) hl
  rw [piE_inv h (List.getElem?_eq_some_iff.1 ha).1, piE_inv h (List.getElem?_eq_some_iff.1 hb).1] at this
  exact this

theorem getD_ren {T T' : List (List Ins)} {σ : Nat → Nat} {k m : Int} (h : Ren T T' σ k m) {a : Nat} (ha : a < T.length) : T'.getD (σ a) [] = (T.getD a []).map (swI k m) := by
  obtain ⟨l, hl⟩ := get_of_lt ha
  rw [List.getD_eq_getElem?_getD, List.getD_eq_getElem?_getD, h.row a l hl, hl]
  rfl

theorem cpy_src {T T' : List (List Ins)} {σ : Nat → Nat} {k m : Int} (h : Ren T T' σ k m) {b : Nat} {yb : Evt} (hb : (evsT T 0)[b]? = some yb) : srcG (trE k m (σ yb.thread.toNat) yb) ((evsT T' 0).take (piE T T' σ b)) 0 (-1) = piI T T' σ (srcG yb ((evsT T 0).take b) 0 (-1)) := by
  obtain ⟨i, l, _, h1, _, _, h4⟩ := ev_find hb
  have hi := (List.getElem?_eq_some_iff.1 h1).1
  refine srcG_pi h hi h4 ?_ (swI_reg k m _) b (piE T T' σ b) (fun d z hz hzt => (piE_iff h hz hb (by rw [hzt, h4])).symm)
  show ((σ yb.thread.toNat : Nat) : Int) = _
  rw [h4, Int.toNat_natCast]

theorem srcG_lt (y : Evt) (E : List Evt) (j : Nat) : srcG y (E.take j) 0 (-1) = -1 ∨ ∃ a : Nat, srcG y (E.take j) 0 (-1) = (a : Int) ∧ a < E.length := by
  rcases srcG_range y (E.take j) 0 (-1) (.inl rfl) with h | ⟨a, h1, h2⟩
  · exact .inl h
  · refine .inr ⟨a, h1, ?_⟩
    rw [List.length_take] at h2
    omega

theorem kep_pi {T T' : List (List Ins)} {σ : Nat → Nat} {k m : Int} (h : Ren T T' σ k m) {a b : Nat} (ha : a < (evsT T 0).length) (hb : b < (evsT T 0).length) : ((piE T T' σ a : Int), (piE T T' σ b : Int)) ∈ allU (pairB (evsT T' 0) (keepQ T' (evsT T' 0))) (evsT T' 0).length → ((a : Int), (b : Int)) ∈ allU (pairB (evsT T 0) (keepQ T (evsT T 0))) (evsT T 0).length := by
  obtain ⟨ya, hya⟩ := get_of_lt ha
  obtain ⟨yb, hyb⟩ := get_of_lt hb
  rw [allU_mem, allU_mem, pairB_get hya hyb, pairB_get (ren_ev h hya) (ren_ev h hyb)]
  rintro ⟨_, h2, h3⟩
  unfold keepQ at h3 ⊢
  rw [Bool.and_eq_true, beq_iff_eq] at h3
  obtain ⟨h4, h5⟩ := h3
  have ht := (same_tr h hya hyb).1 h4
  refine ⟨hb, (piE_iff h hya hyb ht).1 h2, ?_⟩
  rw [Bool.and_eq_true, beq_iff_eq]
  refine ⟨ht, ?_⟩
  rw [Bool.or_eq_true] at h5 ⊢
  rcases h5 with h5 | h5
  · refine .inl ?_
    obtain ⟨i, l, _, h1, _, _, h4'⟩ := ev_find hya
    have hi := (List.getElem?_eq_some_iff.1 h1).1
    have eT : T'.getD (trE k m (σ ya.thread.toNat) ya).thread.toNat [] = (T.getD ya.thread.toNat []).map (swI k m) := by
      show T'.getD ((σ ya.thread.toNat : Nat) : Int).toNat [] = _
      rw [Int.toNat_natCast, h4', Int.toNat_natCast]
      exact getD_ren h hi
    rw [eT] at h5
    unfold kepB at h5 ⊢
    rw [fen_sw (a := ya) (b := yb) (a' := trE k m (σ ya.thread.toNat) ya) (b' := trE k m (σ yb.thread.toNat) yb) _ rfl rfl rfl rfl] at h5
    have e1 : modB (trE k m (σ ya.thread.toNat) ya) (trE k m (σ yb.thread.toNat) yb) = modB ya yb := by
      unfold modB trE
      simp only [swI_mode]
    have e2 : mrkB (trE k m (σ ya.thread.toNat) ya) (trE k m (σ yb.thread.toNat) yb) = mrkB ya yb := rfl
    have e3 : swapB (trE k m (σ ya.thread.toNat) ya) (trE k m (σ yb.thread.toNat) yb) = swapB ya yb := by
      unfold swapB
      rw [h4, ht]
      simp only [beq_self_eq_true]
      rfl
    rw [e1, e2, e3] at h5
    exact h5
  · refine .inr ?_
    unfold cpyB at h5 ⊢
    rw [Bool.and_eq_true, beq_iff_eq] at h5 ⊢
    obtain ⟨h6, h7⟩ := h5
    refine ⟨by rw [← h6]; exact (swI_op k m yb.ins).symm, ?_⟩
    rw [cpy_src h hyb] at h7
    rw [beq_iff_eq] at h7 ⊢
    rcases srcG_lt yb (evsT T 0) b with e | ⟨c, e, hc⟩
    · rw [e, piI_neg] at h7; omega
    · rw [e, piI_nat] at h7
      have := piE_inj h ha hc (by omega)
      rw [e, this]

theorem coh_pi {T T' : List (List Ins)} {σ : Nat → Nat} {k m : Int} (h : Ren T T' σ k m) {a b : Nat} (ha : a < (evsT T 0).length) (hb : b < (evsT T 0).length) : ((piE T T' σ a : Int), (piE T T' σ b : Int)) ∈ allU (pairB (evsT T' 0) cohQ) (evsT T' 0).length → ((a : Int), (b : Int)) ∈ allU (pairB (evsT T 0) cohQ) (evsT T 0).length := by
  obtain ⟨ya, hya⟩ := get_of_lt ha
  obtain ⟨yb, hyb⟩ := get_of_lt hb
  rw [allU_mem, allU_mem, pairB_get hya hyb, pairB_get (ren_ev h hya) (ren_ev h hyb)]
  rintro ⟨_, h2, h3⟩
  unfold cohQ at h3 ⊢
  rw [Bool.and_eq_true, beq_iff_eq] at h3
  have ht := (same_tr h hya hyb).1 h3.1
  refine ⟨hb, (piE_iff h hya hyb ht).1 h2, ?_⟩
  rw [Bool.and_eq_true, beq_iff_eq]
  refine ⟨ht, ?_⟩
  rw [← same_tr_loc hya hyb]
  exact h3.2

theorem any_rangeR {n : Nat} {f : Nat → Bool} (h : (List.range n).any f = true) : ∃ i, i < n ∧ f i = true := by
  obtain ⟨i, h1, h2⟩ := List.any_eq_true.1 h
  exact ⟨i, List.mem_range.1 h1, h2⟩

theorem torn_pi {T T' : List (List Ins)} {σ : Nat → Nat} {k m : Int} (h : Rn T T' σ k m) {x : Exe} (hx : IsEx (evsT T 0) x) (ht : tornQ (torQ (evsT T' 0) (rkX (evsT T' 0) (phiX T T' σ k m x))) (evsT T' 0).length = true) : tornQ (torQ (evsT T 0) (rkX (evsT T 0) x)) (evsT T 0).length = true := by
  unfold tornQ at ht ⊢
  obtain ⟨j', hj', h1⟩ := any_rangeR ht
  obtain ⟨i', hi', h2⟩ := any_rangeR h1
  have hil : i' < (evsT T' 0).length := by omega
  obtain ⟨yi', hyi'⟩ := get_of_lt hil
  obtain ⟨yj', hyj'⟩ := get_of_lt hj'
  -- here
  have hi := piE_lt h.r.symm hil
  have hj := piE_lt h.r.symm hj'
  have ii := piE_inv h.r.symm hil
  have jj := piE_inv h.r.symm hj'
  obtain ⟨yi, hyi⟩ := get_of_lt hi
  obtain ⟨yj, hyj⟩ := get_of_lt hj
  have ei := ren_ev h.r hyi
  have ej := ren_ev h.r hyj
  rw [ii] at ei
  rw [jj] at ej
  unfold torQ at h2
  rw [pairB_get ei ej, Bool.and_eq_true] at h2
  obtain ⟨h3, h4⟩ := h2
  unfold swapB at h3
  simp only [Bool.and_eq_true, beq_iff_eq] at h3
  obtain ⟨⟨⟨t1, t2⟩, t3⟩, t4⟩ := h3
  have tt := (same_tr h.r hyi hyj).1 t1
  have hlt := (piE_iff h.r hyi hyj tt).1 (by rw [ii, jj]; exact hi')
  refine List.any_eq_true.2 ⟨_, List.mem_range.2 hj, List.any_eq_true.2 ⟨_, List.mem_range.2 hlt, ?_⟩⟩
  unfold torQ
  rw [pairB_get hyi hyj, Bool.and_eq_true]
  constructor
  · unfold swapB
    simp only [Bool.and_eq_true, beq_iff_eq]
    exact ⟨⟨⟨tt, t2⟩, t3⟩, t4⟩
  · have r1 := phi_rank h hx hyi (.inl t3)
    have r2 := phi_rank h hx hyj (.inr t4)
    rw [ii] at r1
    rw [jj] at r2
    rw [r1, r2] at h4
    exact h4

/-! sections and Syncs -/
def lzI (l : List Ins) : List (Int × Int) := (thoL 2 (evsI 0 l 0) 0).zip (thoL 3 (evsI 0 l 0) 0)

theorem thoL_shift (kd : Int) (E : List Evt) (i : Nat) : thoL kd E i = (thoL kd E 0).map (· + (i : Int)) := by
  have key : ∀ (E : List Evt) (i j : Nat), thoL kd E (i + j) = (thoL kd E i).map (· + (j : Int)) := by
    intro E
    induction E with
    | nil => intro i j; rfl
    | cons x E ih =>
      intro i j
      have := ih (i + 1) j
      rw [show i + 1 + j = i + j + 1 by omega] at this
      cases hx : x.kind == kd
      · rw [thoL_mis hx, thoL_mis hx, this]
      · rw [thoL_hit hx, thoL_hit hx, this, List.map_cons]
        congr 1
  have := key E 0 i
  rw [Nat.zero_add] at this
  exact this

theorem thoL_I (kd : Int) (a b : Nat) (l : List Ins) (j i : Nat) : thoL kd (evsI a l j) i = thoL kd (evsI b l j) i := by
  have e : evsI a l j = (evsI b l j).map fun y => { y with thread := (a : Int) } := by
    induction l generalizing j with
    | nil => rfl
    | cons x l ih =>
      rw [evsI, evsI, List.map_append, ih]
      congr 1
      unfold evsK
      rw [List.map_map]
      rfl
  rw [e]
  generalize evsI b l j = E
  induction E generalizing i with
  | nil => rfl
  | cons x E ih => simp only [List.map_cons, thoL, ih]

theorem lzI_sw (k m : Int) (l : List Ins) : lzI (l.map (swI k m)) = lzI l := by
  have e : ∀ kd i, thoL kd (evsI 0 (l.map (swI k m)) 0) i = thoL kd (evsI 0 l 0) i := fun kd i => by
    rw [evsI_tr k m 0 0]
    generalize evsI 0 l 0 = E
    induction E generalizing i with
    | nil => rfl
    | cons x E ih => simp only [List.map_cons, thoL, ih]; rfl
  unfold lzI
  rw [e, e]

theorem lz_len {l : List Ins} {j : Nat} (h : nst l j false < 0) (a i o : Nat) : (thoL 2 (evsI a l o) i).length = (thoL 3 (evsI a l o) i).length := by
  rw [thoL_len, thoL_len, cntK_evsI 5 2 kinds_enter, cntK_evsI 6 3 kinds_leave]
  have := nst_count h
  simpa using this

theorem nstF_all {T : List (List Ins)} {i : Nat} (h : nstF T i = none) : ∀ l ∈ T, nst l 0 false < 0 := by
  induction T generalizing i with
  | nil => intro l hl; cases hl
  | cons x T ih =>
    unfold nstF at h
    split at h
    · cases h
    · rename_i hn
      intro l hl
      rcases List.mem_cons.1 hl with rfl | hl
      · omega
      · exact ih h l hl

theorem zip_secs {T : List (List Ins)} (hT : ∀ l ∈ T, nst l 0 false < 0) (o i : Nat) (b e : Int) : (b, e) ∈ (thoL 2 (evsT T o) i).zip (thoL 3 (evsT T o) i) ↔ ∃ (a : Nat) (l : List Ins) (u v : Int), T[a]? = some l ∧ (u, v) ∈ lzI l ∧ b = u + ((i + (evsT (T.take a) o).length : Nat) : Int) ∧ e = v + ((i + (evsT (T.take a) o).length : Nat) : Int) := by
  induction T generalizing o i with
  | nil =>
    constructor
    · intro h; simp [evsT, thoL] at h
    · rintro ⟨a, l, u, v, h, _⟩; simp at h
  | cons x T ih =>
    have ihT := ih (fun l hl => hT l (List.mem_cons_of_mem _ hl)) (o + 1) (i + (evsI o x 0).length)
    rw [evsT, thoL_append, thoL_append, List.zip_append (lz_len (hT x (List.mem_cons_self ..)) o i 0), List.mem_append, ihT]
    have hloc : ∀ p : Int × Int, p ∈ (thoL 2 (evsI o x 0) i).zip (thoL 3 (evsI o x 0) i) ↔ ∃ u v, (u, v) ∈ lzI x ∧ p = (u + (i : Int), v + (i : Int)) := fun p => by
      rw [thoL_I 2 o 0, thoL_I 3 o 0, thoL_shift 2, thoL_shift 3, List.zip_map, List.mem_map]
      constructor
      · rintro ⟨q, hq, rfl⟩; exact ⟨q.1, q.2, hq, rfl⟩
      · rintro ⟨u, v, hq, rfl⟩; exact ⟨(u, v), hq, rfl⟩
    constructor
    · rintro (h | ⟨a, l, u, v, h1, h2, h3, h4⟩)
      · obtain ⟨u, v, h1, h2⟩ := (hloc _).1 h
        cases h2
        exact ⟨0, x, u, v, rfl, h1, by simp [evsT], by simp [evsT]⟩
      · refine ⟨a + 1, l, u, v, by simpa using h1, h2, ?_, ?_⟩
        · rw [h3, List.take_succ_cons, evsT, List.length_append, Nat.add_assoc]
        · rw [h4, List.take_succ_cons, evsT, List.length_append, Nat.add_assoc]
    · rintro ⟨a, l, u, v, h1, h2, h3, h4⟩
      cases a with
      | zero =>
        simp at h1
        subst h1
        refine .inl ((hloc _).2 ⟨u, v, h2, ?_⟩)
        rw [h3, h4]
        simp [evsT]
      | succ a =>
        refine .inr ⟨a, l, u, v, by simpa using h1, h2, ?_, ?_⟩
        · rw [h3, List.take_succ_cons, evsT, List.length_append, Nat.add_assoc]
        · rw [h4, List.take_succ_cons, evsT, List.length_append, Nat.add_assoc]

theorem thoL_in {kd : Int} {E : List Evt} {k : Nat} {y : Evt} (i : Nat) (h : E[k]? = some y) (hk : y.kind = kd) : ((i + k : Nat) : Int) ∈ thoL kd E i := by
  induction E generalizing i k with
  | nil => simp at h
  | cons x E ih =>
    cases k with
    | zero =>
      simp at h
      subst h
      rw [thoL_hit (by simp [hk])]
      exact List.mem_cons_self ..
    | succ k =>
      have := ih (i + 1) (by simpa using h)
      rw [show i + 1 + k = i + (k + 1) by omega] at this
      cases hx : x.kind == kd
      · rw [thoL_mis hx]; exact this
      · rw [thoL_hit hx]; exact List.mem_cons_of_mem _ this

end Go.Proofs.Ytomijmikkbhgmab
