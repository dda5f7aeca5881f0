import Derived.Test.YtomijmikkbhgmaaGreatSg
import Derived.Test.YtomijmikkbhgmaaGreatMath18
namespace Go.Proofs.YtomijmikkbhgmaaGreat
open Go.RowKit

theorem Tryz.infoOutc : (Tryz.prog.info? 77).map (fun i => (i.zero, i.size, i.bytes)) = some (some (.agg #[.slice none 0 0, .int .i64 0]), 2, 32) := by kernel_rfl

def OutC (w : World) (b off : Nat) (p : List Int × Nat) : Prop := ∃ u, w.cell? ⟨b, off, none⟩ = some u ∧ w.cell? ⟨b, off + 1, none⟩ = some (.int .i64 p.2) ∧ IntAt w u p.1
def OutAt (w : World) (v : Value) (P : List (List Int × Nat)) : Prop := ∃ ao b off cap, SlAt w 2 OutC v P ao b off cap
theorem outC_keeps : Keeps OutC := fun _ _ _ _ _ hb ⟨u, h1, h2, h3⟩ => ⟨u, keep_cell hb h1, keep_cell hb h2, h3.keep hb⟩
theorem OutAt.keep {w w' : World} {v : Value} {L : List (List Int × Nat)} (h : OutAt w v L) (hb : Below w.heap.size w w') : OutAt w' v L := by
  obtain ⟨ao, b, off, cap, h⟩ := h
  exact ⟨ao, b, off, cap, h.keep outC_keeps hb⟩

def outV (q : Value × (List Int × Nat)) : List Value := [q.1, .int .i64 q.2.2]
theorem outV_len (q : Value × (List Int × Nat)) : (outV q).length = 2 := rfl

/-- Outcomes in a row of the call's own; their states lie below. -/
structure OutOwn (w0 wr : World) (V : Value) (K : List (Value × (List Int × Nat))) : Prop where
  own : wr.ownsRow w0.heap.size 77 2 V K.length (K.flatMap outV)
  st : ∀ q ∈ K, IntAt w0 q.1 q.2.1

theorem OutOwn.nil (w0 wr : World) : OutOwn w0 wr (.slice none 0 0) [] := ⟨World.ownsRow_nil _ _ _ _, fun q hq => by cases hq⟩

theorem OutOwn.read {w0 wr : World} {V : Value} {K : List (Value × (List Int × Nat))} (h : OutOwn w0 wr V K) (hb : Below w0.heap.size w0 wr) : OutAt wr V (K.map (·.2)) := by
  rcases h.own.2 with ⟨hv, hn⟩ | ⟨g, cap, cur, hv, hg, hh, _⟩
  · have h0 : K = [] := List.eq_nil_of_length_eq_zero hn
    subst h0
    exact ⟨none, 0, 0, 0, hv, fun h => absurd rfl h, fun _ => ⟨rfl, rfl⟩, fun k x h => by simp at h⟩
  · refine ⟨_, g, 0, cap, by rw [hv, List.length_map], fun _ => rfl, fun h => by simp at h, fun k x hk => ?_⟩
    rw [List.getElem?_map] at hk
    cases hq : K[k]? with
    | none => rw [hq] at hk; simp at hk
    | some q =>
      rw [hq] at hk
      have hx : q.2 = x := by simpa using hk
      subst hx
      have c1 := h.own.cells (g := g) (by rw [hv]; rfl) (k * 2 + 0) q.1 (by rw [flat_get outV 2 outV_len K k 0 q hq (by omega)]; rfl)
      have c2 := h.own.cells (g := g) (by rw [hv]; rfl) (k * 2 + 1) (.int .i64 q.2.2) (by rw [flat_get outV 2 outV_len K k 1 q hq (by omega)]; rfl)
      rw [Addr.add_lit] at c1 c2
      exact ⟨q.1, by rw [Nat.add_zero] at c1; exact c1, by rw [Nat.add_assoc]; exact c2, (h.st q (List.mem_of_getElem? hq)).keep hb⟩

theorem OutOwn.snoc {w0 wr w2 : World} {V V' : Value} {K : List (Value × (List Int × Nat))} (h : OutOwn w0 wr V K) {u : Value} {s : List Int} {n : Nat} (hu : IntAt w0 u s) (hown : w2.ownsRow w0.heap.size 77 2 V' (K.length + 1) (K.flatMap outV ++ [u, .int .i64 n])) : OutOwn w0 w2 V' (K ++ [(u, (s, n))]) := by
  refine ⟨by rw [List.flatMap_append, List.length_append]; exact hown, fun q hq => ?_⟩
  rcases List.mem_append.1 hq with hq | hq
  · exact h.st q hq
  · have : q = (u, (s, n)) := by simpa using hq
    rw [this]; exact hu

def lenV : Value → Nat
  | .slice _ n _ => n
  | _ => 0

/-- All states of allowed candidates. -/
def stsL (al : Nat → Bool) (T : List (List Ins)) (E : List Evt) (N : Nat) : List (List Int) := (optL al T E N).filterMap id

/-- How many of some states are one. -/
def cntO2 (L : List (Option (List Int))) (v : List Int) : Nat := cnSt (L.filterMap id) v
theorem cntO2_none (L : List (Option (List Int))) (v : List Int) : cntO2 (L ++ [none]) v = cntO2 L v := by unfold cntO2; rw [List.filterMap_append]; simp
theorem cnSt_snoc (L : List (List Int)) (s v : List Int) : cnSt (L ++ [s]) v = cnSt L v + (if s == v then 1 else 0) := by
  induction L with
  | nil => simp [cnSt]
  | cons a L ih => rw [List.cons_append, cnSt, cnSt, ih]; omega
theorem cntO2_some (L : List (Option (List Int))) (l v : List Int) : cntO2 (L ++ [some l]) v = cntO2 L v + (if l == v then 1 else 0) := by
  unfold cntO2; rw [List.filterMap_append]; exact cnSt_snoc _ _ _
theorem cnSt_le (L : List (List Int)) (v : List Int) : cnSt L v ≤ L.length := by
  induction L with
  | nil => exact Nat.le_refl _
  | cons a L ih => rw [cnSt, List.length_cons]; split <;> omega
theorem cntO2_le (L : List (Option (List Int))) (v : List Int) : cntO2 L v ≤ L.length := Nat.le_trans (cnSt_le _ _) (List.length_filterMap_le _ _)

/-- What Outcomes tells. -/
def OOut (T : List (List Ins)) (c : List Atm) (al : Nat → Bool) (w : World) (u : Value) (er : Int) : Prop :=
  ((chk T c).1 ≠ 0 ∧ er = (chk T c).1 ∧ u = .slice none 0 0) ∨ ((chk T c).1 = 0 ∧ er = 0 ∧ OutAt w u (outK (stsL al T (evsT T 0) (sizeN (evsT T 0)))))

theorem optL_ok {T : List (List Ins)} {c : List Atm} (hz : ((chk T c).1 == 0) = true) (al : Nat → Bool) (N : Nat) : ∀ o ∈ optL al T (evsT T 0) N, StOk (3 * T.length + 3) o := by
  intro o ho l hl
  unfold optL at ho
  obtain ⟨n, _, hn⟩ := List.mem_map.1 ho
  rw [hl] at hn
  split at hn
  · cases hn
    refine ⟨staL_len _ _ _ _, fun a ha => ?_⟩
    have := staL_small (chk_vals hz) T.length _ _ a ha
    omega
  · cases hn

set_option maxRecDepth 20000 in
set_option maxHeartbeats 4000000 in
theorem outcomesR_any (T : List (List Ins)) (fa : Bool) (c : List Atm) (al : Nat → Bool) (hal : Als T (evsT T 0) al) (vt vc : Value) (w : World) (h : TestAt w (.agg #[vt, .bool fa, vc]) T fa c vt vc) :
    Calls Tryz.prog 22 #[.agg #[vt, .bool fa, vc]] w fun e w' => ∃ (u : Value) (er : Int), e = .returned (.tuple #[u, .int .i64 er]) ∧ OOut T c al w' u er ∧ Below w.heap.size w w' := by
  have HT : Hid (TestAt w (.agg #[vt, .bool fa, vc]) T fa c vt vc) := h
  have HALL : Hid (((chk T c).1 == 0) = true → ∀ w', Below w.heap.size w w' → Calls Tryz.prog 46 #[.agg #[vt, .bool fa, vc]] w' fun e w'' => ∃ u s, e = .returned (.tuple #[u, s]) ∧ OptAt w'' s (optL al T (evsT T 0) (sizeN (evsT T 0))) ∧ Below w'.heap.size w' w'') := fun hz w' hb => (all_any T fa c hz al hal vt vc w' (h.keep hb)).mono fun e w'' ⟨u, s, he, _, hs, hb'⟩ => ⟨u, s, he, hs, hb'⟩
  have HOK : Hid (((chk T c).1 == 0) = true → T.length ≤ 4 ∧ (optL al T (evsT T 0) (sizeN (evsT T 0))).length ≤ 2000 ∧ ∀ o ∈ optL al T (evsT T 0) (sizeN (evsT T 0)), StOk (3 * T.length + 3) o) := fun hz => ⟨(fits_of hz).short.t4, by rw [optL_len]; exact chk_many_no hz, optL_ok hz al _⟩
  have HJ : Hid (∀ w' u er, OOut T c al w' u er ↔ ((chk T c).1 ≠ 0 ∧ er = (chk T c).1 ∧ u = .slice none 0 0) ∨ ((chk T c).1 = 0 ∧ er = 0 ∧ OutAt w' u (outK ((optL al T (evsT T 0) (sizeN (evsT T 0))).filterMap id)))) := fun _ _ _ => Iff.rfl
  generalize OOut T c al = J at HJ ⊢
  generalize optL al T (evsT T 0) (sizeN (evsT T 0)) = L at HALL HOK HJ
  generalize hq : chk T c = q at HALL HOK HJ
  have HQ : Hid (chk T c = q) := hq
  clear hq h
  go_enter Tryz.func22, Tryz.ntmps22
  go_wp2_with fail
  have hba := below_alloc w (.cells #[vt, .bool fa, vc] 25)
  refine (checkR_any T fa c _ vt vc _ (HT.out.keep hba)).mono ?_
  rw [HQ.out]
  rintro e w3 ⟨rfl, hb3⟩
  have hbw3 := below_more hba hb3
  have t0 := keep_cell hb3 (b := w.heap.size) (off := 0) (u := vt) (by simp)
  have t1 := keep_cell hb3 (b := w.heap.size) (off := 1) (u := .bool fa) (by simp)
  have t2 := keep_cell hb3 (b := w.heap.size) (off := 2) (u := vc) (by simp)
  clear hb3
  cases hz : q.1 == 0
  · have hz2 : (q.1 != 0) = true := by simp [bne, hz]
    have HM : Hid (∀ w', J w' (.slice none 0 0) q.1) := fun w' => (HJ.out w' _ q.1).2 (.inl ⟨by simpa using hz, rfl, rfl⟩)
    clear HJ
    go_wp2_with fail
    go_ret2
    exact ⟨_, _, rfl, HM.out _, hbw3⟩
  · have hz2 : (q.1 != 0) = false := by simp [bne, hz]
    have hq0 : q.1 = 0 := by simpa using hz
    obtain ⟨hT4, hL2, hLok⟩ := HOK.out hz
    have HLS : Hid (∀ l, some l ∈ L → l.length = 3 * T.length + 3) := fun l hl => (hLok _ hl l rfl).1
    have HJ2 : Hid (∀ w' u, OutAt w' u (outK (L.filterMap id)) → J w' u 0) := fun w' u h => (HJ.out w' u 0).2 (.inr ⟨hq0, rfl, h⟩)
    have HKS : Hid (∀ (than : Option (List Int)) (j : Nat), ((than = none ∧ j = 0) ∨ ∃ p i, j = i + 1 ∧ than = some p.1 ∧ (outK (L.filterMap id))[i]? = some p) → leastO than none L = ((outK (L.filterMap id))[j]?).map (·.1)) := fun than j hth => least_next HLS.out than j hth
    have HKC : Hid (∀ (p : List Int × Nat), p ∈ outK (L.filterMap id) → p.2 = cntO2 L p.1 ∧ p.1.length = 3 * T.length + 3) := fun p hp => by
      have hmem : ∀ {l : List Int}, l ∈ L.filterMap id ↔ some l ∈ L := by intro l; simp [List.mem_filterMap]
      obtain ⟨s1, s2, s3, s4⟩ := outK_spec (n := 3 * T.length + 3) (L := L.filterMap id) (fun s hs => HLS.out s (hmem.1 hs))
      exact ⟨by rw [← cnOu_at s1 hp, s4]; rfl, s2 p hp⟩
    have HSM : Hid (∀ o ∈ L, StOk (3 * T.length + 3) o) := hLok
    have HLQ : Hid (∀ w0 w' v u than, Below w0.heap.size w0 w' → OptAt w0 v L → OptV w0 u than → StOk (3 * T.length + 3) than → Calls Tryz.prog 47 #[v, u] w' fun e w'' => ∃ r, e = .returned r ∧ OptV w0 r (leastO than none L) ∧ StOk (3 * T.length + 3) (leastO than none L) ∧ Below w'.heap.size w' w'') := fun w0 w' v u than hb hv hu hth => by
      refine (least_any (3 * T.length + 3) (by omega) L (by omega) hLok than hth v u w0 w' hb hv hu).mono ?_
      rintro e w'' ⟨r, he, h1, h2, m, rfl⟩
      exact ⟨r, he, h1, h2, below_drN (Below.refl _ _) m⟩
    have HCP : Hid (∀ (l m : List Int) (u v : Value) (w0 w' : World), Below w0.heap.size w0 w' → StOk (3 * T.length + 3) (some l) → StOk (3 * T.length + 3) (some m) → IntAt w0 u l → IntAt w0 v m → Calls Tryz.prog 48 #[u, v] w' fun e w'' => e = .returned (.int .i64 (cmpL l m)) ∧ Below w'.heap.size w' w'') := fun l m u v w0 w' hb h1 h2 hu hv => by
      obtain ⟨a1, a2⟩ := h1 l rfl
      obtain ⟨b1, b2⟩ := h2 m rfl
      refine (compare_any l m (by omega) (by omega) a2 b2 u v w' (hu.keep hb) (hv.keep hb)).mono ?_
      rintro e w'' ⟨he, k, rfl⟩
      exact ⟨he, below_drN (Below.refl _ _) k⟩
    have HKL : Hid ((outK (L.filterMap id)).length ≤ 2000) := by
      have h1 := outK_len (L.filterMap id)
      have h2 := List.length_filterMap_le id L
      show _ ≤ _
      omega
    generalize outK (L.filterMap id) = KK at HJ2 HKS HKC HKL
    have HA : Hid (∀ w', Below w.heap.size w w' → Calls Tryz.prog 46 #[.agg #[vt, .bool fa, vc]] w' fun e w'' => ∃ u s, e = .returned (.tuple #[u, s]) ∧ OptAt w'' s L ∧ Below w'.heap.size w' w'') := HALL.out hz
    have q3 : ∀ (w : World) (a : Addr) (n c n' c' : Nat), (binOp .neq 26 (.slice (some a) n c) (.slice none n' c')).run Tryz.prog w = .ok (.bool true) w := fun w a n c n' c' => run_neq_slice_nil_any w _ _ (some a) n c n' c' Tryz.underlying26
    have q4 : ∀ (w : World) (n c n' c' : Nat), (binOp .neq 26 (.slice none n c) (.slice none n' c')).run Tryz.prog w = .ok (.bool false) w := fun w n c n' c' => run_neq_slice_nil_any w _ _ none n c n' c' Tryz.underlying26
    obtain ⟨i1, hi, hz0, hz1, hz3⟩ := info_parts Tryz.infoOutc
    have HI : Hid (Tryz.prog.info? 77 = some i1 ∧ i1.zero = some (.agg #[.slice none 0 0, .int .i64 0]) ∧ i1.size = 2 ∧ i1.bytes = 32) := ⟨hi, hz0, hz1, hz3⟩
    clear hi hz0 hz1 hz3 HJ HALL HOK hLok hq0
    go_wp2_with fail
    refine (HA.out w3 hbw3).mono ?_
    rintro e w4 ⟨ux, us, rfl, hus, hb4⟩
    have hbw4 := below_more hbw3 hb4
    have HUS : Hid (OptAt w4 us L) := hus
    obtain ⟨aoS, bS, offS, capS, hvS, haS, _, hcS⟩ := hus
    subst hvS
    have HSC : Hid (∀ k o, L[k]? = some o → ∃ u, w4.cell? ⟨bS, offS + k, none⟩ = some u ∧ OptV w4 u o) := fun k o hk => by
      obtain ⟨u, h1, h2⟩ := hcS k o hk
      rw [Nat.mul_one] at h1
      exact ⟨u, h1, h2⟩
    clear hcS t0 t1 t2 hb4 hbw3 HA
    go_wp2_with fail
    refine (HLQ.out w4 w4 _ _ none (Below.refl _ _) HUS.out rfl (fun l h => by cases h)).mono ?_
    rintro e w5 ⟨v5, rfl, hv5, hs5, hb5⟩
    have HV5 : Hid (OptV w4 v5 ((KK[0]?).map (·.1)) ∧ StOk (3 * T.length + 3) ((KK[0]?).map (·.1))) := by
      have := HKS.out none 0 (.inl ⟨rfl, rfl⟩)
      rw [this] at hv5 hs5
      exact ⟨hv5, hs5⟩
    clear hv5 hs5
    go_wp2_with fail
    go_loopw [8, 9] (fun u v wr => ∃ (j : Nat) (K : List (Value × (List Int × Nat))), j ≤ KK.length ∧ (∃ ao cap, u = .slice ao j cap) ∧ K.length = j ∧ Hid (OutOwn w4 wr u K ∧ K.map (·.2) = KK.take j) ∧ Hid (OptV w4 v ((KK[j]?).map (·.1)) ∧ StOk (3 * T.length + 3) ((KK[j]?).map (·.1))) ∧ Below w4.heap.size w4 wr) (fun u _ _ => KK.length - lenV u)
    case atStart => exact ⟨0, [], Nat.zero_le _, ⟨none, 0, rfl⟩, rfl, ⟨OutOwn.nil _ _, rfl⟩, HV5.out, hb5⟩
    case round =>
      clear HV5 hb5
      obtain ⟨j, K, hj, ⟨aoU, capU, rfl⟩, hKl, hOW, hV, hb⟩ := hrel
      by_cases hjl : j < KK.length
      · obtain ⟨p, hp⟩ := get_of_lt hjl
        have HP : Hid (KK[j]? = some p) := hp
        have hV' : OptV w4 u9 (some p.1) ∧ StOk (3 * T.length + 3) (some p.1) := by have := hV.out; rw [hp] at this; exact this
        obtain ⟨av, capv, hfv⟩ := OptV.form hV'.1
        subst hfv
        have HV : Hid (OptV w4 (.slice (some av) p.1.length capv) (some p.1) ∧ StOk (3 * T.length + 3) (some p.1)) := hV'
        obtain ⟨hpc, hpl⟩ := HKC.out p (List.mem_of_getElem? hp)
        have HPC : Hid (p.2 = cntO2 L p.1) := hpc
        clear hV hV' hp hpc hpl
        go_wp2_with fail
        go_loopw [10, 11] (fun cn i wr => ∃ (k : Nat) , k ≤ L.length ∧ i = .int .i64 k ∧ cn = .int .i64 ((cntO2 (L.take k) p.1 : Nat) : Int) ∧ Hid (OutOwn w4 wr (.slice aoU j capU) K) ∧ Below w4.heap.size w4 wr) (fun _ i _ => L.length - (intOf i).toNat)
        case atStart => exact ⟨0, Nat.zero_le _, rfl, rfl, hOW.out.1, hb⟩
        case round =>
          obtain ⟨k, hk, rfl, rfl, hO, hb⟩ := hrel
          have hcle : cntO2 (L.take k) p.1 ≤ 2000 := Nat.le_trans (cntO2_le _ _) (by rw [List.length_take]; omega)
          by_cases hkl : k < L.length
          · obtain ⟨o, ho⟩ := get_of_lt hkl
            obtain rfl := haS (ne_nil hkl)
            obtain ⟨uo, c0, huo⟩ := HSC.out k o ho
            replace c0 := keep_cell hb c0
            have hoo := HSM.out o (List.mem_of_getElem? ho)
            have htk : Hid (L.take (k + 1) = L.take k ++ [o]) := by show _ = _; rw [List.take_add_one, ho]; rfl
            have hkI : (k : Int) < (L.length : Int) := by omega
            clear ho
            cases o with
            | none =>
              have hu0 : uo = .slice none 0 0 := huo
              subst hu0
              have HN : Hid (cntO2 (L.take (k + 1)) p.1 = cntO2 (L.take k) p.1) := by show _ = _; rw [htk.out, cntO2_none]
              clear huo hoo
              go_wp2_with fail
              go_roundw
              case measure => simp [intOf]; omega
              case rel => exact ⟨k + 1, by omega, by go_num, by rw [HN.out], hO.out, hb⟩
            | some l =>
              obtain ⟨al', capl, hul⟩ := OptV.form huo
              subst hul
              have HCC := HCP.out l p.1 (.slice (some al') l.length capl) (.slice (some av) p.1.length capv) w4 wr hb hoo HV.out.2 huo.1 HV.out.1.1
              have hll : l.length = p.1.length := by rw [(hoo l rfl).1, (HV.out.2 p.1 rfl).1]
              have hcz := cmpL_zero hll
              have HN : Hid (cntO2 (L.take (k + 1)) p.1 = cntO2 (L.take k) p.1 + (if l == p.1 then 1 else 0)) := by show _ = _; rw [htk.out, cntO2_some]
              have hcb : (cmpL l p.1 == 0) = (l == p.1) := by rw [Bool.eq_iff_iff, beq_iff_eq, beq_iff_eq]; exact hcz
              generalize cmpL l p.1 = cm at HCC hcb
              generalize (l == p.1) = lp at HN hcb
              clear hcz hll huo hoo
              go_wp2_with fail
              refine HCC.mono ?_
              clear HCC
              rintro e w6 ⟨rfl, hb6⟩
              have HO6 : Hid (OutOwn w4 w6 (.slice aoU j capU) K) := ⟨own_keep hO.out.own hb6, hO.out.st⟩
              have hb46 := below_more hb hb6
              clear c0
              generalize cntO2 (L.take k) p.1 = cn at HN hcle
              cases lp
              · have hcm : (cm == 0) = false := hcb
                have HN2 : Hid (cntO2 (L.take (k + 1)) p.1 = cn) := HN.out
                clear HN
                go_wp2_with fail
                go_roundw
                case measure => simp [intOf]; omega
                case rel => exact ⟨k + 1, by omega, by go_num, by rw [HN2.out], HO6.out, hb46⟩
              · have hcm : (cm == 0) = true := hcb
                have HN2 : Hid (cntO2 (L.take (k + 1)) p.1 = cn + 1) := HN.out
                clear HN
                go_wp2_with fail
                go_roundw
                case measure => simp [intOf]; omega
                case rel => exact ⟨k + 1, by omega, by go_num, by rw [HN2.out]; go_num, HO6.out, hb46⟩
          · have hcnt : cntO2 (L.take k) p.1 = p.2 := by rw [List.take_of_length_le (by omega), HPC.out]
            rw [hcnt] at hcle ⊢
            have hkI : (L.length : Int) ≤ (k : Int) := by omega
            have HOW : Hid (wr.ownsRow w4.heap.size 77 2 (.slice aoU j capU) j (K.flatMap outV)) := by have := hO.out.own; rw [hKl] at this; exact this
            have HMAP : Hid (K.map (·.2) = KK.take j) := hOW.out.2
            have hsz := hb.size
            have hKK := HKL.out
            clear hcnt
            go_wp2_with (at_builtin; refine append_new _ rfl _ _ 55 rfl w4.heap.size 77 i1 (.agg #[.slice none 0 0, .int .i64 0]) 2 32 Tryz.underlying55 HI.out.1 HI.out.2.1 HI.out.2.2.1 HI.out.2.2.2 rfl (by decide) (.slice aoU j capU) j (K.flatMap outV) rfl (HOW.out.alloc _) (some ⟨wr.heap.size, 0, none⟩) 1 1 [.slice (some av) p.1.length capv, .int .i64 p.2] rfl (fun h => by cases h) rfl (fun ad had => by cases had; exact new_many rfl) (by simp [Value.oneCell']) (by unfold maxLen; omega) (by omega) (by simp; omega) ?_)
            intro V8 w8 hown8 hgrow8 hap8
            obtain ⟨ao8, cap8, hf8, _⟩ := own_form hown8
            subst hf8
            have HO8 : Hid (OutOwn w4 w8 (.slice ao8 (j + 1) cap8) (K ++ [(.slice (some av) p.1.length capv, p)])) := hO.out.snoc HV.out.1.1 (by rw [hKl]; exact hown8)
            have HB8 : Hid (Below w4.heap.size w4 w8) := Below.grown (hb.alloc hsz _) hgrow8 (by simp; omega) (fun kk e => (HOW.out.lt kk e).1)
            clear hown8 hgrow8 hap8
            have HLR := HLQ.out w4 w8 (.slice aoS L.length capS) (.slice (some av) p.1.length capv) (some p.1) HB8.out HUS.out HV.out.1 HV.out.2
            have HNX : Hid (leastO (some p.1) none L = ((KK[j + 1]?).map (·.1))) := HKS.out (some p.1) (j + 1) (.inr ⟨p, j, rfl, rfl, HP.out⟩)
            go_wp2_with fail
            refine HLR.mono ?_
            clear HLR
            rintro e w9 ⟨v9, rfl, hv9, hs9, hb9⟩
            rw [HNX.out] at hv9 hs9
            have HV9 : Hid (OptV w4 v9 ((KK[j + 1]?).map (·.1)) ∧ StOk (3 * T.length + 3) ((KK[j + 1]?).map (·.1))) := ⟨hv9, hs9⟩
            have HO9 : Hid (OutOwn w4 w9 (.slice ao8 (j + 1) cap8) (K ++ [(.slice (some av) p.1.length capv, p)]) ∧ (K ++ [(Value.slice (some av) p.1.length capv, p)]).map (·.2) = KK.take (j + 1)) := ⟨⟨own_keep HO8.out.own hb9, HO8.out.st⟩, by rw [List.map_append, HMAP.out, List.take_add_one, HP.out]; rfl⟩
            have HB9 : Hid (Below w4.heap.size w4 w9) := below_more HB8.out hb9
            clear hv9 hs9 hb9
            go_wp2_with fail
            go_roundw
            case measure => simp [lenV]; omega
            case rel => exact ⟨j + 1, _, by omega, ⟨ao8, cap8, rfl⟩, by simp [hKl], HO9.out, HV9.out, HB9.out⟩
      · have hjj : j = KK.length := by omega
        have hn : KK[j]? = none := by rw [hjj]; simp
        have hv0 : u9 = .slice none 0 0 := by have := hV.out.1; rw [hn] at this; exact this
        subst hv0
        have HR : Hid (OutAt wr (.slice aoU j capU) KK) := by
          have := hOW.out.1.read hb
          rw [hOW.out.2, hjj, List.take_length] at this
          rw [hjj]; exact this
        clear hV hOW hjj hn
        go_wp2_with fail
        go_ret2
        exact ⟨_, _, rfl, HJ2.out _ _ HR.out, below_more hbw4 hb⟩

end Go.Proofs.YtomijmikkbhgmaaGreat
