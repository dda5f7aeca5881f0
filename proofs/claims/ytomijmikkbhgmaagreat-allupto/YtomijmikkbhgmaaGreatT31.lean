import Derived.Test.YtomijmikkbhgmaaGreatT30
import Derived.Test.YtomijmikkbhgmaaGreatT24
import Derived.Test.YtomijmikkbhgmaaGreatT19
namespace Go.Proofs.YtomijmikkbhgmaaGreat
open Go.RowKit

theorem Tryz.infoOutc : (Tryz.prog.info? 77).map (fun i => (i.zero, i.size, i.bytes)) = some (some (.agg #[.slice none 0 0, .int .i64 0]), 2, 32) := by kernel_rfl

def OutC (w : World) (b off : Nat) (p : List Int × Nat) : Prop := ∃ u, w.cell? ⟨b, off, none⟩ = some u ∧ w.cell? ⟨b, off + 1, none⟩ = some (.int .i64 p.2) ∧ IntAt w u p.1
def OutAt (w : World) (v : Value) (P : List (List Int × Nat)) : Prop := ∃ ao b off cap, SlAt w 2 OutC v P ao b off cap
theorem outC_keeps : Keeps OutC := fun _ _ _ _ _ hb ⟨u, h1, h2, h3⟩ => ⟨u, keep_cell hb h1, keep_cell hb h2, h3.keep hb⟩
theorem OutAt.keep {w w' : World} {v : Value} {L : List (List Int × Nat)} (h : OutAt w v L) (hb : Below w.heap.size w w') : OutAt w' v L := by
  obtain ⟨ao, b, off, cap, h⟩ := h
  exact ⟨ao, b, off, cap, h.keep outC_keeps hb⟩

def outV (q : Value × (List Int × Nat)) : List Value := [q.1, .int .i64 q.2.2]
theorem outV_len (q : Value × (List Int × Nat)) : (outV q).length = 2 := rfl

/-- Outcomes in a row of the call's own; their states lie below. -/
structure OutOwn (w0 wr : World) (V : Value) (K : List (Value × (List Int × Nat))) : Prop where
  own : wr.ownsRow w0.heap.size 77 2 V K.length (K.flatMap outV)
  st : ∀ q ∈ K, IntAt w0 q.1 q.2.1

theorem OutOwn.nil (w0 wr : World) : OutOwn w0 wr (.slice none 0 0) [] := ⟨World.ownsRow_nil _ _ _ _, fun q hq => by cases hq⟩

theorem OutOwn.read {w0 wr : World} {V : Value} {K : List (Value × (List Int × Nat))} (h : OutOwn w0 wr V K) (hb : Below w0.heap.size w0 wr) : OutAt wr V (K.map (·.2)) := by
  rcases h.own.2 with ⟨hv, hn⟩ | ⟨g, cap, cur, hv, hg, hh, _⟩
  · have h0 : K = [] := List.eq_nil_of_length_eq_zero hn
    subst h0
    exact ⟨none, 0, 0, 0, hv, fun h => absurd rfl h, fun _ => ⟨rfl, rfl⟩, fun k x h => by simp at h⟩
  · refine ⟨_, g, 0, cap, by rw [hv, List.length_map], fun _ => rfl, fun h => by simp at h, fun k x hk => ?_⟩
    rw [List.getElem?_map] at hk
    cases hq : K[k]? with
    | none => rw [hq] at hk; simp at hk
    | some q =>
      rw [hq] at hk
      have hx : q.2 = x := by simpa using hk
      subst hx
      have c1 := h.own.cells (g := g) (by rw [hv]; rfl) (k * 2 + 0) q.1 (by rw [flat_get outV 2 outV_len K k 0 q hq (by omega)]; rfl)
      have c2 := h.own.cells (g := g) (by rw [hv]; rfl) (k * 2 + 1) (.int .i64 q.2.2) (by rw [flat_get outV 2 outV_len K k 1 q hq (by omega)]; rfl)
      rw [Addr.add_lit] at c1 c2
      exact ⟨q.1, by rw [Nat.add_zero] at c1; exact c1, by rw [Nat.add_assoc]; exact c2, (h.st q (List.mem_of_getElem? hq)).keep hb⟩

theorem OutOwn.snoc {w0 wr w2 : World} {V V' : Value} {K : List (Value × (List Int × Nat))} (h : OutOwn w0 wr V K) {u : Value} {s : List Int} {n : Nat} (hu : IntAt w0 u s) (hown : w2.ownsRow w0.heap.size 77 2 V' (K.length + 1) (K.flatMap outV ++ [u, .int .i64 n])) : OutOwn w0 w2 V' (K ++ [(u, (s, n))]) := by
  refine ⟨by rw [List.flatMap_append, List.length_append]; exact hown, fun q hq => ?_⟩
  rcases List.mem_append.1 hq with hq | hq
  · exact h.st q hq
  · have : q = (u, (s, n)) := by simpa using hq
    rw [this]; exact hu

def lenV : Value → Nat
  | .slice _ n _ => n
  | _ => 0

/-- All states of allowed candidates. -/
def stsL (al : Nat → Bool) (T : List (List Ins)) (E : List Evt) (N : Nat) : List (List Int) := (optL al T E N).filterMap id

/-- How many of some states are one. -/
def cntO2 (L : List (Option (List Int))) (v : List Int) : Nat := cnSt (L.filterMap id) v
theorem cntO2_none (L : List (Option (List Int))) (v : List Int) : cntO2 (L ++ [none]) v = cntO2 L v := by unfold cntO2; rw [List.filterMap_append]; simp
theorem cnSt_snoc (L : List (List Int)) (s v : List Int) : cnSt (L ++ [s]) v = cnSt L v + (if s == v then 1 else 0) := by
  induction L with
  | nil => simp [cnSt]
  | cons a L ih => rw [List.cons_append, cnSt, cnSt, ih]; omega
theorem cntO2_some (L : List (Option (List Int))) (l v : List Int) : cntO2 (L ++ [some l]) v = cntO2 L v + (if l == v then 1 else 0) := by
  unfold cntO2; rw [List.filterMap_append]; exact cnSt_snoc _ _ _
theorem cnSt_le (L : List (List Int)) (v : List Int) : cnSt L v ≤ L.length := by
  induction L with
  | nil => exact Nat.le_refl _
  | cons a L ih => rw [cnSt, List.length_cons]; split <;> omega
theorem cntO2_le (L : List (Option (List Int))) (v : List Int) : cntO2 L v ≤ L.length := Nat.le_trans (cnSt_le _ _) (List.length_filterMap_le _ _)

/-- What Outcomes tells. -/
def OOut (T : List (List Ins)) (c : List Atm) (al : Nat → Bool) (w : World) (u : Value) (er : Int) : Prop :=
  ((chk T c).1 ≠ 0 ∧ er = (chk T c).1 ∧ u = .slice none 0 0) ∨ ((chk T c).1 = 0 ∧ er = 0 ∧ OutAt w u (outK (stsL al T (evsT T 0) (sizeN (evsT T 0)))))

theorem optL_ok {T : List (List Ins)} {c : List Atm} (hz : ((chk T c).1 == 0) = true) (al : Nat → Bool) (N : Nat) : ∀ o ∈ optL al T (evsT T 0) N, StOk (3 * T.length + 3) o := by
  intro o ho l hl
  unfold optL at ho
  obtain ⟨n, _, hn⟩ := List.mem_map.1 ho
  rw [hl] at hn
  split at hn
  · cases hn
    refine ⟨staL_len _ _ _ _, fun a ha => ?_⟩
    have := staL_small (chk_vals hz) T.length _ _ a ha
    omega
  · cases hn

set_option maxRecDepth 20000 in
set_option maxHeartbeats 4000000 in
theorem outcomesR_any (T : List (List Ins)) (fa : Bool) (c : List Atm) (al : Nat → Bool) (hal : Als T (evsT T 0) al) (vt vc : Value) (w : World) (h : TestAt w (.agg #[vt, .bool fa, vc]) T fa c vt vc) :
    Calls Tryz.prog 22 #[.agg #[vt, .bool fa, vc]] w fun e w' => ∃ (u : Value) (er : Int), e = .returned (.tuple #[u, .int .i64 er]) ∧ OOut T c al w' u er ∧ Below w.heap.size w w' := by
  have HT : Hid (TestAt w (.agg #[vt, .bool fa, vc]) T fa c vt vc) := h
  have HALL : Hid (((chk T c).1 == 0) = true → ∀ w', Below w.heap.size w w' → Calls Tryz.prog 46 #[.agg #[vt, .bool fa, vc]] w' fun e w'' => ∃ u s, e = .returned (.tuple #[u, s]) ∧ OptAt w'' s (optL al T (evsT T 0) (sizeN (evsT T 0))) ∧ Below w'.heap.size w' w'') := fun hz w' hb => (all_any T fa c hz al hal vt vc w' (h.keep hb)).mono fun e w'' ⟨u, s, he, _, hs, hb'⟩ => ⟨u, s, he, hs, hb'⟩
  have HOK : Hid (((chk T c).1 == 0) = true → T.length ≤ 4 ∧ (optL al T (evsT T 0) (sizeN (evsT T 0))).length ≤ 2000 ∧ ∀ o ∈ optL al T (evsT T 0) (sizeN (evsT T 0)), StOk (3 * T.length + 3) o) := fun hz => ⟨(fits_of hz).short.t4, by rw [optL_len]; exact chk_many_no hz, optL_ok hz al _⟩
  have HJ : Hid (∀ w' u er, OOut T c al w' u er ↔ ((chk T c).1 ≠ 0 ∧ er = (chk T c).1 ∧ u = .slice none 0 0) ∨ ((chk T c).1 = 0 ∧ er = 0 ∧ OutAt w' u (outK ((optL al T (evsT T 0) (sizeN (evsT T 0))).filterMap id)))) := fun _ _ _ => Iff.rfl
  generalize OOut T c al = J at HJ ⊢
  generalize optL al T (evsT T 0) (sizeN (evsT T 0)) = L at HALL HOK HJ
  generalize hq : chk T c = q at HALL HOK HJ
  have HQ : Hid (chk T c = q) := hq
  clear hq h
  go_enter Tryz.func22, Tryz.ntmps22
  go_wp2_with fail
  have hba := below_alloc w (.cells #[vt, .bool fa, vc] 25)
  refine (checkR_any T fa c _ vt vc _ (HT.out.keep hba)).mono ?_
  rw [HQ.out]
  rintro e w3 ⟨rfl, hb3⟩
  have hbw3 := below_more hba hb3
  have t0 := keep_cell hb3 (b := w.heap.size) (off := 0) (u := vt) (by simp)
  have t1 := keep_cell hb3 (b := w.heap.size) (off := 1) (u := .bool fa) (by simp)
  have t2 := keep_cell hb3 (b := w.heap.size) (off := 2) (u := vc) (by simp)
  clear hb3
  cases hz : q.1 == 0
  · have hz2 : (q.1 != 0) = true := by simp [bne, hz]
    have HM : Hid (∀ w', J w' (.slice none 0 0) q.1) := fun w' => (HJ.out w' _ q.1).2 (.inl ⟨by simpa using hz, rfl, rfl⟩)
    clear HJ
    go_wp2_with fail
    go_ret2
    exact ⟨_, _, rfl, HM.out _, hbw3⟩
  · have hz2 : (q.1 != 0) = false := by simp [bne, hz]
    have hq0 : q.1 = 0 := by simpa using hz
    obtain ⟨hT4, hL2, hLok⟩ := HOK.out hz
    have HLS : Hid (∀ l, some l ∈ L → l.length = 3 * T.length + 3) := fun l hl => (hLok _ hl l rfl).1
    have HJ2 : Hid (∀ w' u, OutAt w' u (outK (L.filterMap id)) → J w' u 0) := fun w' u h => (HJ.out w' u 0).2 (.inr ⟨hq0, rfl, h⟩)
    have HKS : Hid (∀ (than : Option (List Int)) (j : Nat), ((than = none ∧ j = 0) ∨ ∃ p i, j = i + 1 ∧ than = some p.1 ∧ (outK (L.filterMap id))[i]? = some p) → leastO than none L = ((outK (L.filterMap id))[j]?).map (·.1)) := fun than j hth => least_next HLS.out than j hth
    have HKC : Hid (∀ (p : List Int × Nat), p ∈ outK (L.filterMap id) → p.2 = cntO2 L p.1 ∧ p.1.length = 3 * T.length + 3) := fun p hp => by
      have hmem : ∀ {l : List Int}, l ∈ L.filterMap id ↔ some l ∈ L := by intro l; simp [List.mem_filterMap]
      obtain ⟨s1, s2, s3, s4⟩ := outK_spec (n := 3 * T.length + 3) (L := L.filterMap id) (fun s hs => HLS.out s (hmem.1 hs))
      exact ⟨by rw [← cnOu_at s1 hp, s4]; rfl, s2 p hp⟩
    have HSM : Hid (∀ o ∈ L, StOk (3 * T.length + 3) o) := hLok
    have HLQ : Hid (∀ w0 w' v u than, Below w0.heap.size w0 w' → OptAt w0 v L → OptV w0 u than → StOk (3 * T.length + 3) than → Calls Tryz.prog 47 #[v, u] w' fun e w'' => ∃ r, e = .returned r ∧ OptV w0 r (leastO than none L) ∧ StOk (3 * T.length + 3) (leastO than none L) ∧ Below w'.heap.size w' w'') := fun w0 w' v u than hb hv hu hth => by
      refine (least_any (3 * T.length + 3) (by omega) L (by omega) hLok than hth v u w0 w' hb hv hu).mono ?_
      rintro e w'' ⟨r, he, h1, h2, m, rfl⟩
      exact ⟨r, he, h1, h2, below_drN (Below.refl _ _) m⟩
    have HCP : Hid (∀ (l m : List Int) (u v : Value) (w0 w' : World), Below w0.heap.size w0 w' → StOk (3 * T.length + 3) (some l) → StOk (3 * T.length + 3) (some m) → IntAt w0 u l → IntAt w0 v m → Calls Tryz.prog 48 #[u, v] w' fun e w'' => e = .returned (.int .i64 (cmpL l m)) ∧ Below w'.heap.size w' w'') := fun l m u v w0 w' hb h1 h2 hu hv => by
      obtain ⟨a1, a2⟩ := h1 l rfl
      obtain ⟨b1, b2⟩ := h2 m rfl
      refine (compare_any l m (by omega) (by omega) a2 b2 u v w' (hu.keep hb) (hv.keep hb)).mono ?_
      rintro e w'' ⟨he, k, rfl⟩
      exact ⟨he, below_drN (Below.refl _ _) k⟩
    have HKL : Hid ((outK (L.filterMap id)).length ≤ 2000) := by
      have h1 := outK_len (L.filterMap id)
      have h2 := List.length_filterMap_le id L
      show _ ≤ _
      omega
    generalize outK (L.filterMap id) = KK at HJ2 HKS HKC HKL
    have HA : Hid (∀ w', Below w.heap.size w w' → Calls Tryz.prog 46 #[.agg #[vt, .bool fa, vc]] w' fun e w'' => ∃ u s, e = .returned (.tuple #[u, s]) ∧ OptAt w'' s L ∧ Below w'.heap.size w' w'') := HALL.out hz
    have q3 : ∀ (w : World) (a : Addr) (n c n' c' : Nat), (binOp .neq 26 (.slice (some a) n c) (.slice none n' c')).run Tryz.prog w = .ok (.bool true) w := fun w a n c n' c' => run_neq_slice_nil_any w _ _ (some a) n c n' c' Tryz.underlying26
    have q4 : ∀ (w : World) (n c n' c' : Nat), (binOp .neq 26 (.slice none n c) (.slice none n' c')).run Tryz.prog w = .ok (.bool false) w := fun w n c n' c' => run_neq_slice_nil_any w _ _ none n c n' c' Tryz.underlying26
    obtain ⟨i1, hi, hz0, hz1, hz3⟩ := info_parts Tryz.infoOutc
    have HI : Hid (Tryz.prog.info? 77 = some i1 ∧ i1.zero = some (.agg #[.slice none 0 0, .int .i64 0]) ∧ i1.size = 2 ∧ i1.bytes = 32) := ⟨hi, hz0, hz1, hz3⟩
    clear hi hz0 hz1 hz3 HJ HALL HOK hLok hq0
    go_wp2_with fail
    refine (HA.out w3 hbw3).mono ?_
    rintro e w4 ⟨ux, us, rfl, hus, hb4⟩
    have hbw4 := below_more hbw3 hb4
    have HUS : Hid (OptAt w4 us L) := hus
    obtain ⟨aoS, bS, offS, capS, hvS, haS, _, hcS⟩ := hus
    subst hvS
    have HSC : Hid (∀ k o, L[k]? = some o → ∃ u, w4.cell? ⟨bS, offS + k, none⟩ = some u ∧ OptV w4 u o) := fun k o hk => by
      obtain ⟨u, h1, h2⟩ := hcS k o hk
      rw [Nat.mul_one] at h1
      exact ⟨u, h1, h2⟩
    clear hcS t0 t1 t2 hb4 hbw3 HA
    go_wp2_with fail
    refine (HLQ.out w4 w4 _ _ none (Below.refl _ _) HUS.out rfl (fun l h => by cases h)).mono ?_
    rintro e w5 ⟨v5, rfl, hv5, hs5, hb5⟩
    have HV5 : Hid (OptV w4 v5 ((KK[0]?).map (·.1)) ∧ StOk (3 * T.length + 3) ((KK[0]?).map (·.1))) := by
      have := HKS.out none 0 (.inl ⟨rfl, rfl⟩)
      rw [this] at hv5 hs5
      exact ⟨hv5, hs5⟩
    clear hv5 hs5
    go_wp2_with fail
    go_loopw [8, 9] (fun u v wr => ∃ (j : Nat) (K : List (Value × (List Int × Nat))), j ≤ KK.length ∧ (∃ ao cap, u = .slice ao j cap) ∧ K.length = j ∧ Hid (OutOwn w4 wr u K ∧ K.map (·.2) = KK.take j) ∧ Hid (OptV w4 v ((KK[j]?).map (·.1)) ∧ StOk (3 * T.length + 3) ((KK[j]?).map (·.1))) ∧ Below w4.heap.size w4 wr) (fun u _ _ => KK.length - lenV u)
    case atStart => exact ⟨0, [], Nat.zero_le _, ⟨none, 0, rfl⟩, rfl, ⟨OutOwn.nil _ _, rfl⟩, HV5.out, hb5⟩
    case round =>
      clear HV5 hb5
      obtain ⟨j, K, hj, ⟨aoU, capU, rfl⟩, hKl, hOW, hV, hb⟩ := hrel
      by_cases hjl : j < KK.length
      · obtain ⟨p, hp⟩ := get_of_lt hjl
        have HP : Hid (KK[j]? = some p) := hp
        have hV' : OptV w4 u9 (some p.1) ∧ StOk (3 * T.length + 3) (some p.1) := by have := hV.out; rw [hp] at this; exact this
        obtain ⟨av, capv, hfv⟩ := OptV.form hV'.1
        subst hfv
        have HV : Hid (OptV w4 (.slice (some av) p.1.length capv) (some p.1) ∧ StOk (3 * T.length + 3) (some p.1)) := hV'
        obtain ⟨hpc, hpl⟩ := HKC.out p (List.mem_of_getElem? hp)
        have HPC : Hid (p.2 = cntO2 L p.1) := hpc
        clear hV hV' hp hpc hpl
        go_wp2_with fail
        go_loopw [10, 11] (fun cn i wr => ∃ (k : Nat) , k ≤ L.length ∧ i = .int .i64 k ∧ cn = .int .i64 ((cntO2 (L.take k) p.1 : Nat) : Int) ∧ Hid (OutOwn w4 wr (.slice aoU j capU) K) ∧ Below w4.heap.size w4 wr) (fun _ i _ => L.length - (intOf i).toNat)
        case atStart => exact ⟨0, Nat.zero_le _, rfl, rfl, hOW.out.1, hb⟩
        case round =>
          obtain ⟨k, hk, rfl, rfl, hO, hb⟩ := hrel
          have hcle : cntO2 (L.take k) p.1 ≤ 2000 := Nat.le_trans (cntO2_le _ _) (by rw [List.length_take]; omega)
          by_cases hkl : k < L.length
          · obtain ⟨o, ho⟩ := get_of_lt hkl
            obtain rfl := haS (ne_nil hkl)
            obtain ⟨uo, c0, huo⟩ := HSC.out k o ho
            replace c0 := keep_cell hb c0
            have hoo := HSM.out o (List.mem_of_getElem? ho)
            have htk : Hid (L.take (k + 1) = L.take k ++ [o]) := by show _ = _; rw [List.take_add_one, ho]; rfl
            have hkI : (k : Int) < (L.length : Int) := by omega
            clear ho
            cases o with
            | none =>
              have hu0 : uo = .slice none 0 0 := huo
              subst hu0
              have HN : Hid (cntO2 (L.take (k + 1)) p.1 = cntO2 (L.take k) p.1) := by show _ = _; rw [htk.out, cntO2_none]
              clear huo hoo
              go_wp2_with fail
              go_roundw
              case measure => simp [intOf]; omega
              case rel => exact ⟨k + 1, by omega, by go_num, by rw [HN.out], hO.out, hb⟩
            | some l =>
              obtain ⟨al', capl, hul⟩ := OptV.form huo
              subst hul
              have HCC := HCP.out l p.1 (.slice (some al') l.length capl) (.slice (some av) p.1.length capv) w4 wr hb hoo HV.out.2 huo.1 HV.out.1.1
              have hll : l.length = p.1.length := by rw [(hoo l rfl).1, (HV.out.2 p.1 rfl).1]
              have hcz := cmpL_zero hll
              have HN : Hid (cntO2 (L.take (k + 1)) p.1 = cntO2 (L.take k) p.1 + (if l == p.1 then 1 else 0)) := by show _ = _; rw [htk.out, cntO2_some]
              have hcb : (cmpL l p.1 == 0) = (l == p.1) := by rw [Bool.eq_iff_iff, beq_iff_eq, beq_iff_eq]; exact hcz
              generalize cmpL l p.1 = cm at HCC hcb
              generalize (l == p.1) = lp at HN hcb
              clear hcz hll huo hoo
              go_wp2_with fail
              refine HCC.mono ?_
              clear HCC
              rintro e w6 ⟨rfl, hb6⟩
              have HO6 : Hid (OutOwn w4 w6 (.slice aoU j capU) K) := ⟨own_keep hO.out.own hb6, hO.out.st⟩
              have hb46 := below_more hb hb6
              clear c0
              generalize cntO2 (L.take k) p.1 = cn at HN hcle
              cases lp
              · have hcm : (cm == 0) = false := hcb
                have HN2 : Hid (cntO2 (L.take (k + 1)) p.1 = cn) := HN.out
                clear HN
                go_wp2_with fail
                go_roundw
                case measure => simp [intOf]; omega
                case rel => exact ⟨k + 1, by omega, by go_num, by rw [HN2.out], HO6.out, hb46⟩
              · have hcm : (cm == 0) = true := hcb
                have HN2 : Hid (cntO2 (L.take (k + 1)) p.1 = cn + 1) := HN.out
                clear HN
                go_wp2_with fail
                go_roundw
                case measure => simp [intOf]; omega
                case rel => exact ⟨k + 1, by omega, by go_num, by rw [HN2.out]; go_num, HO6.out, hb46⟩
          · have hcnt : cntO2 (L.take k) p.1 = p.2 := by rw [List.take_of_length_le (by omega), HPC.out]
            rw [hcnt] at hcle ⊢
            have hkI : (L.length : Int) ≤ (k : Int) := by omega
            have HOW : Hid (wr.ownsRow w4.heap.size 77 2 (.slice aoU j capU) j (K.flatMap outV)) := by have := hO.out.own; rw [hKl] at this; exact this
            have HMAP : Hid (K.map (·.2) = KK.take j) := hOW.out.2
            have hsz := hb.size
            have hKK := HKL.out
            clear hcnt
            go_wp2_with (at_builtin; refine append_new _ rfl _ _ 55 rfl w4.heap.size 77 i1 (.agg #[.slice none 0 0, .int .i64 0]) 2 32 Tryz.underlying55 HI.out.1 HI.out.2.1 HI.out.2.2.1 HI.out.2.2.2 rfl (by decide) (.slice aoU j capU) j (K.flatMap outV) rfl (HOW.out.alloc _) (some ⟨wr.heap.size, 0, none⟩) 1 1 [.slice (some av) p.1.length capv, .int .i64 p.2] rfl (fun h => by cases h) rfl (fun ad had => by cases had; exact new_many rfl) (by simp [Value.oneCell']) (by unfold maxLen; omega) (by omega) (by simp; omega) ?_)
            intro V8 w8 hown8 hgrow8 hap8
            obtain ⟨ao8, cap8, hf8, _⟩ := own_form hown8
            subst hf8
            have HO8 : Hid (OutOwn w4 w8 (.slice ao8 (j + 1) cap8) (K ++ [(.slice (some av) p.1.length capv, p)])) := hO.out.snoc HV.out.1.1 (by rw [hKl]; exact hown8)
            have HB8 : Hid (Below w4.heap.size w4 w8) := Below.grown (hb.alloc hsz _) hgrow8 (by simp; omega) (fun kk e => (HOW.out.lt kk e).1)
            clear hown8 hgrow8 hap8
            have HLR := HLQ.out w4 w8 (.slice aoS L.length capS) (.slice (some av) p.1.length capv) (some p.1) HB8.out HUS.out HV.out.1 HV.out.2
            have HNX : Hid (leastO (some p.1) none L = ((KK[j + 1]?).map (·.1))) := HKS.out (some p.1) (j + 1) (.inr ⟨p, j, rfl, rfl, HP.out⟩)
            go_wp2_with fail
            refine HLR.mono ?_
            clear HLR
            rintro e w9 ⟨v9, rfl, hv9, hs9, hb9⟩
            rw [HNX.out] at hv9 hs9
            have HV9 : Hid (OptV w4 v9 ((KK[j + 1]?).map (·.1)) ∧ StOk (3 * T.length + 3) ((KK[j + 1]?).map (·.1))) := ⟨hv9, hs9⟩
            have HO9 : Hid (OutOwn w4 w9 (.slice ao8 (j + 1) cap8) (K ++ [(.slice (some av) p.1.length capv, p)]) ∧ (K ++ [(Value.slice (some av) p.1.length capv, p)]).map (·.2) = KK.take (j + 1)) := ⟨⟨own_keep HO8.out.own hb9, HO8.out.st⟩, by rw [List.map_append, HMAP.out, List.take_add_one, HP.out]; rfl⟩
            have HB9 : Hid (Below w4.heap.size w4 w9) := below_more HB8.out hb9
            clear hv9 hs9 hb9
            go_wp2_with fail
            go_roundw
            case measure => simp [lenV]; omega
            case rel => exact ⟨j + 1, _, by omega, ⟨ao8, cap8, rfl⟩, by simp [hKl], HO9.out, HV9.out, HB9.out⟩
      · have hjj : j = KK.length := by omega
        have hn : KK[j]? = none := by rw [hjj]; simp
        have hv0 : u9 = .slice none 0 0 := by have := hV.out.1; rw [hn] at this; exact this
        subst hv0
        have HR : Hid (OutAt wr (.slice aoU j capU) KK) := by
          have := hOW.out.1.read hb
          rw [hOW.out.2, hjj, List.take_length] at this
          rw [hjj]; exact this
        clear hV hOW hjj hn
        go_wp2_with fail
        go_ret2
        exact ⟨_, _, rfl, HJ2.out _ _ HR.out, below_more hbw4 hb⟩

end Go.Proofs.YtomijmikkbhgmaaGreat

namespace Go.Proofs.YtomijmikkbhgmaaGreat
open Go.RowKit

set_option maxRecDepth 20000 in
set_option maxHeartbeats 1000000 in
theorem isLess_any (l m : List Int) (hlm : m.length = l.length) (hl : l.length ≤ 1000) (u v : Value) (w : World) (hu : IntAt w u l) (hv : IntAt w v m) :
    Calls Tryz.prog 87 #[u, v] w fun e w' => e = .returned (.bool (ltL l m)) ∧ Below w.heap.size w w' := by
  obtain ⟨ao, b, off, cap, hu1, ha, _, hc⟩ := hu
  obtain ⟨ao2, b2, off2, cap2, hv1, ha2, _, hc2⟩ := hv
  subst hu1 hv1
  rw [hlm]
  have HC : Hid (∀ k x, l[k]? = some x → w.cell? ⟨b, off + k, none⟩ = some (.int .i64 x)) := fun k x hx => by
    have := hc k x hx
    unfold IntC at this
    rw [Nat.mul_one] at this; exact this
  have HC2 : Hid (∀ k x, m[k]? = some x → w.cell? ⟨b2, off2 + k, none⟩ = some (.int .i64 x)) := fun k x hx => by
    have := hc2 k x hx
    unfold IntC at this
    rw [Nat.mul_one] at this; exact this
  have HSM : Hid (m.length = l.length) := hlm
  have HB : Hid (ltL l m = ltL (l.drop 0) (m.drop 0)) := rfl
  generalize ltL l m = B at HB ⊢
  clear hc hc2 hlm
  go_enter Tryz.func87, Tryz.ntmps87
  go_wp2_with fail
  go_loopw [5] (fun i wr => ∃ k nn : Nat, k ≤ l.length ∧ i = .int .i64 k ∧ Hid (B = ltL (l.drop k) (m.drop k)) ∧ wr = w.drewN nn) (fun i _ => l.length - (intOf i).toNat)
  case atStart => exact ⟨0, 0, Nat.zero_le _, rfl, HB.out, rfl⟩
  case round =>
    clear HB
    obtain ⟨k, nn, hk, rfl, hn, hwr⟩ := hrel
    subst hwr
    by_cases hlt : k < l.length
    · obtain ⟨x, hx⟩ := get_of_lt hlt
      obtain ⟨y, hy⟩ := get_of_lt (l := m) (k := k) (by have := HSM.out; omega)
      obtain rfl := ha (ne_nil hlt)
      obtain rfl := ha2 (ne_nil (k := k) (by have := HSM.out; omega))
      have c0 := HC.out k x hx
      have d0 := HC2.out k y hy
      have hkI : (k : Int) < (l.length : Int) := by omega
      have HN : Hid (B = ltL (x :: l.drop (k + 1)) (y :: m.drop (k + 1))) := hn.out.trans (by rw [drop_cons hx, drop_cons hy])
      clear hn hx hy
      cases hxy : x == y
      · have hxy' : (x != y) = true := by simp [bne, hxy]
        have HM : Hid (B = decide (x < y)) := HN.out.trans (ltL_ne hxy _ _)
        go_wp2_with fail
        go_quiet (fail)
        go_wp2_with fail
        go_quiet (fail)
        go_wp2_with fail
        go_ret
        exact ⟨by rw [HM.out]; rfl, below_drN (below_drN (below_drN (Below.refl _ _) _) _) _⟩
      · have hxy' : (x != y) = false := by simp [bne, hxy]
        have HM : Hid (B = ltL (l.drop (k + 1)) (m.drop (k + 1))) := HN.out.trans (ltL_eq hxy _ _)
        go_wp2_with fail
        go_quiet (fail)
        go_wp2_with fail
        go_roundw
        case measure => simp [intOf]; omega
        case rel => exact ⟨k + 1, _, by omega, by go_num, HM.out, rfl⟩
    · have HM : Hid (B = false) := hn.out.trans (by rw [drop_nil hlt]; rfl)
      have hkI : (l.length : Int) ≤ (k : Int) := by omega
      clear hn
      go_wp2_with fail
      go_ret
      exact ⟨by rw [HM.out]; rfl, below_drN (Below.refl _ _) _⟩

/-- How many outcomes go ahead of a state. -/
def posK : List (List Int × Nat) → List Int → Nat
  | [], _ => 0
  | p :: K, s => if ltL p.1 s then posK K s + 1 else 0
theorem posK_le (K : List (List Int × Nat)) (s : List Int) : posK K s ≤ K.length := by
  induction K with
  | nil => exact Nat.le_refl _
  | cons p K ih => rw [posK, List.length_cons]; split <;> omega
theorem posK_low {K : List (List Int × Nat)} {s : List Int} {k : Nat} {p : List Int × Nat} (h : k < posK K s) (hp : K[k]? = some p) : ltL p.1 s = true := by
  induction K generalizing k with
  | nil => simp at hp
  | cons q K ih =>
    rw [posK] at h
    cases hq : ltL q.1 s
    · rw [hq] at h; simp at h
    · rw [hq, if_pos rfl] at h
      cases k with
      | zero => simp at hp; rw [← hp]; exact hq
      | succ k => rw [List.getElem?_cons_succ] at hp; exact ih (by omega) hp
theorem posK_high {K : List (List Int × Nat)} (hs : SrtK K) {s : List Int} {k : Nat} {p : List Int × Nat} (h : posK K s ≤ k) (hp : K[k]? = some p) : ltL p.1 s = false := by
  induction K generalizing k with
  | nil => simp at hp
  | cons q K ih =>
    rw [posK] at h
    cases hq : ltL q.1 s
    · cases hps : ltL p.1 s
      · rfl
      · cases k with
        | zero => simp at hp; rw [hp] at hq; rw [hq] at hps; cases hps
        | succ k =>
          rw [List.getElem?_cons_succ] at hp
          have := ltL_trans (hs.1 p (List.mem_of_getElem? hp)) hps
          rw [hq] at this; cases this
    · rw [hq, if_pos rfl] at h
      cases k with
      | zero => omega
      | succ k => rw [List.getElem?_cons_succ] at hp; exact ih hs.2 (by omega) hp

set_option maxRecDepth 20000 in
set_option maxHeartbeats 2000000 in
theorem placeFor_any (n : Nat) (hn : n ≤ 1000) (K : List (List Int × Nat)) (hK : K.length ≤ 2000) (hs : SrtK K) (hl : LenK n K) (s : List Int) (hsl : s.length = n) (u v : Value) (w : World) (hu : OutAt w u K) (hv : IntAt w v s) :
    Calls Tryz.prog 86 #[u, v] w fun e w' => e = .returned (.int .i64 (posK K s : Nat)) ∧ Below w.heap.size w w' := by
  have HLT : Hid (∀ (l : List Int) (vl : Value) (w' : World), l.length = n → Below w.heap.size w w' → IntAt w' vl l → Calls Tryz.prog 87 #[vl, v] w' fun e w'' => e = .returned (.bool (ltL l s)) ∧ Below w'.heap.size w' w'') := fun l vl w' hll hb hvl => isLess_any l s (by omega) (by omega) vl v w' hvl (hv.keep hb)
  obtain ⟨ao, b, off, cap, hu1, ha, _, hc⟩ := hu
  obtain ⟨aov, capv, hvf⟩ := hv.form
  subst hu1 hvf
  have HC : Hid (∀ k p, K[k]? = some p → OutC w b (off + k * 2) p ∧ p.1.length = n) := fun k p hp => ⟨hc k p hp, hl p (List.mem_of_getElem? hp)⟩
  have HLO : Hid (∀ k p, k < posK K s → K[k]? = some p → ltL p.1 s = true) := fun k p h1 h2 => posK_low h1 h2
  have HHI : Hid (∀ k p, posK K s ≤ k → K[k]? = some p → ltL p.1 s = false) := fun k p h1 h2 => posK_high hs h1 h2
  have hP := posK_le K s
  generalize posK K s = P at HLO HHI hP ⊢
  clear hc hv hl hs hsl
  go_enter Tryz.func86, Tryz.ntmps86
  go_wp2_with fail
  go_loopw [5, 6] (fun x y wr => ∃ lo hi : Nat, lo ≤ P ∧ P ≤ hi ∧ hi ≤ K.length ∧ x = .int .i64 lo ∧ y = .int .i64 hi ∧ Below w.heap.size w wr) (fun x y _ => (intOf y).toNat - (intOf x).toNat)
  case atStart => exact ⟨0, K.length, Nat.zero_le _, hP, Nat.le_refl _, rfl, rfl, Below.refl _ _⟩
  case round =>
    obtain ⟨lo, hi, h1, h2, h3, rfl, rfl, hb⟩ := hrel
    by_cases hlt : lo < hi
    · have hltI : (lo : Int) < (hi : Int) := by omega
      obtain ⟨p, hp⟩ := get_of_lt (l := K) (k := lo + (hi - lo) / 2) (by omega)
      obtain rfl := ha (ne_nil (k := lo) (by omega))
      obtain ⟨⟨uo, c0, c1, huo⟩, hpl⟩ := HC.out _ p hp
      replace c0 := keep_cell hb c0
      obtain ⟨aoo, capo, hfo⟩ := huo.form
      subst hfo
      have HL1 := HLT.out p.1 _ wr hpl hb (huo.keep hb)
      have HPL : Hid (ltL p.1 s = true → lo + (hi - lo) / 2 < P) := fun h => Nat.lt_of_not_le fun hle => by have := HHI.out _ p hle hp; rw [h] at this; cases this
      have HPH : Hid (ltL p.1 s = false → P ≤ lo + (hi - lo) / 2) := fun h => Nat.le_of_not_lt fun hle => by have := HLO.out _ p hle hp; rw [h] at this; cases this
      have e1 : (hi : Int) - (lo : Int) = ((hi - lo : Nat) : Int) := by omega
      have e2 : IntKind.i64.wrap ((hi - lo : Nat) : Int) = ((hi - lo : Nat) : Int) := by rw [IntKind.wrap_i64]; omega
      have e3 : ((hi - lo : Nat) : Int) / 2 = (((hi - lo) / 2 : Nat) : Int) := by omega
      have e4 : IntKind.i64.wrap (((hi - lo) / 2 : Nat) : Int) = (((hi - lo) / 2 : Nat) : Int) := by rw [IntKind.wrap_i64]; omega
      have e5 : (lo : Int) + (((hi - lo) / 2 : Nat) : Int) = ((lo + (hi - lo) / 2 : Nat) : Int) := by omega
      have e6 : IntKind.i64.wrap ((lo + (hi - lo) / 2 : Nat) : Int) = ((lo + (hi - lo) / 2 : Nat) : Int) := by rw [IntKind.wrap_i64]; omega
      have hmI : ((lo + (hi - lo) / 2 : Nat) : Int) < (K.length : Int) := by omega
      generalize ltL p.1 s = lb at HL1 HPL HPH
      have hmh : lo + (hi - lo) / 2 < hi := by omega
      generalize hmid : lo + (hi - lo) / 2 = mid at *
      have hlm : lo ≤ mid := by omega
      generalize (hi - lo) / 2 = hf at *
      generalize hi - lo = df at *
      clear hp huo hpl hmid
      go_wp2_with fail
      refine HL1.mono ?_
      rintro e w6 ⟨rfl, hb6⟩
      have hb7 := below_more hb hb6
      clear HL1 c0 c1
      cases lb
      · have hm := HPH.out rfl
        go_wp2_with fail
        go_roundw
        case measure => simp [intOf]; omega
        case rel => exact ⟨lo, mid, h1, hm, by omega, rfl, rfl, hb7⟩
      · have hm := HPL.out rfl
        go_wp2_with fail
        go_roundw
        case measure => simp [intOf]; omega
        case rel => exact ⟨mid + 1, hi, by omega, h2, h3, by go_num, rfl, hb7⟩
    · have hltI : (hi : Int) ≤ (lo : Int) := by omega
      have hlp : lo = P := by omega
      go_wp2_with fail
      go_ret
      exact ⟨by rw [hlp]; rfl, hb⟩

end Go.Proofs.YtomijmikkbhgmaaGreat

namespace Go.Proofs.YtomijmikkbhgmaaGreat
open Go.RowKit

theorem Tryz.infoCase : (Tryz.prog.info? 96).map (fun i => (i.zero, i.size, i.bytes)) = some (some (.agg #[.int .i64 0, .slice none 0 0, .slice none 0 0, .slice none 0 0]), 4, 80) := by kernel_rfl

/-- The numbers of the allowed candidates. -/
def casN (al : Nat → Bool) (N : Nat) : List Nat := (List.range N).filter al
theorem casN_yes {al : Nat → Bool} {k : Nat} (h : al k = true) : casN al (k + 1) = casN al k ++ [k] := by unfold casN; rw [List.range_succ, List.filter_append]; simp [h]
theorem casN_no {al : Nat → Bool} {k : Nat} (h : al k = false) : casN al (k + 1) = casN al k := by unfold casN; rw [List.range_succ, List.filter_append]; simp [h]
theorem casN_len (al : Nat → Bool) (k : Nat) : (casN al k).length ≤ k := by unfold casN; exact Nat.le_trans (List.length_filter_le _ _) (by simp)
theorem casN_states (al : Nat → Bool) (T : List (List Ins)) (E : List Evt) (N : Nat) : (optL al T E N).filterMap id = (casN al N).map fun n => stX T E (exN E n) := by
  induction N with
  | zero => rfl
  | succ N ih =>
    rw [optL_step, List.filterMap_append, ih]
    cases h : al N
    · rw [casN_no h]; simp
    · rw [casN_yes h]; simp

/-- What lies about a case stays while what lies from block B on stays. -/
def StabB (T : List (List Ins)) (E : List Evt) (B : Nat) (w : World) (vf vo u : Value) (n : Nat) : Prop :=
  ∀ w' : World, w.heap.size ≤ w'.heap.size → (∀ b : Nat, B ≤ b → b < w.heap.size → w'.heap[b]? = w.heap[b]?) → ExeF B w' vf vo (exN E n) ∧ IntF B w' u (stX T E (exN E n))
theorem StabB.now {T : List (List Ins)} {E : List Evt} {B : Nat} {w : World} {vf vo u : Value} {n : Nat} (h : StabB T E B w vf vo u n) : ExeAt w vf vo (exN E n) ∧ IntAt w u (stX T E (exN E n)) := by
  obtain ⟨h1, h2⟩ := h w (Nat.le_refl _) (fun _ _ _ => rfl)
  exact ⟨h1.new.at', h2.new.at'⟩
theorem StabB.keep {T : List (List Ins)} {E : List Evt} {B : Nat} {w w' : World} {vf vo u : Value} {n : Nat} (h : StabB T E B w vf vo u n) (hb : Below w.heap.size w w') : StabB T E B w' vf vo u n :=
  fun w'' hs hk => h w'' (Nat.le_trans hb.size hs) (fun b h1 h2 => (hk b h1 (Nat.lt_of_lt_of_le h2 hb.size)).trans (hb.block b h2))

/-- A case with its number. -/
def CasC (T : List (List Ins)) (E : List Evt) (B : Nat) (w : World) (b off : Nat) (n : Nat) : Prop := ∃ vf vo u, w.cell? ⟨b, off, none⟩ = some (.int .i64 n) ∧ w.cell? ⟨b, off + 1, none⟩ = some vf ∧ w.cell? ⟨b, off + 2, none⟩ = some vo ∧ w.cell? ⟨b, off + 3, none⟩ = some u ∧ StabB T E B w vf vo u n
def CasAt (T : List (List Ins)) (E : List Evt) (B : Nat) (w : World) (v : Value) (C : List Nat) : Prop := ∃ ao b off cap, SlAt w 4 (CasC T E B) v C ao b off cap
/-- .. and the states of no two cases lie in one block. -/
def CasAp (T : List (List Ins)) (E : List Evt) (B : Nat) (w : World) (v : Value) (C : List Nat) : Prop := ∃ ao b off cap, SlAt w 4 (CasC T E B) v C ao b off cap ∧ ∀ (i j : Nat) (a z : Value) (g : Nat), i < j → j < C.length → w.cell? ⟨b, off + i * 4 + 3, none⟩ = some a → w.cell? ⟨b, off + j * 4 + 3, none⟩ = some z → a.ownBlock = some g → z.ownBlock ≠ some g
theorem CasAp.at' {T : List (List Ins)} {E : List Evt} {B : Nat} {w : World} {v : Value} {C : List Nat} (h : CasAp T E B w v C) : CasAt T E B w v C := by
  obtain ⟨ao, b, off, cap, hs, _⟩ := h
  exact ⟨ao, b, off, cap, hs⟩
/-- What lies about a case stays while nothing but V's own row turns. -/
def StabC (T : List (List Ins)) (E : List Evt) (B : Nat) (w : World) (V vf vo u : Value) (n : Nat) : Prop :=
  ∀ w' : World, w.heap.size ≤ w'.heap.size → (∀ b : Nat, B ≤ b → b < w.heap.size → V.ownBlock ≠ some b → w'.heap[b]? = w.heap[b]?) → ExeF B w' vf vo (exN E n) ∧ IntF B w' u (stX T E (exN E n))

structure CL (T : List (List Ins)) (E : List Evt) (w : World) (base : Nat) (V : Value) (C : List Nat) (vs : List Value) : Prop where
  own : w.ownsRow base 96 4 V C.length vs
  rows : ∀ (j n : Nat), C[j]? = some n → ∃ vf vo u, vs[j * 4]? = some (.int .i64 n) ∧ vs[j * 4 + 1]? = some vf ∧ vs[j * 4 + 2]? = some vo ∧ vs[j * 4 + 3]? = some u ∧ StabC T E base w V vf vo u n
  apart : ∀ (i j : Nat) (a z : Value) (b : Nat), i < j → vs[i * 4 + 3]? = some a → vs[j * 4 + 3]? = some z → a.ownBlock = some b → z.ownBlock ≠ some b
  blt : ∀ (j : Nat) (a : Value) (b : Nat), vs[j * 4 + 3]? = some a → a.ownBlock = some b → b < w.heap.size

theorem CL.nil (T : List (List Ins)) (E : List Evt) (w : World) (base : Nat) : CL T E w base (.slice none 0 0) [] [] := ⟨World.ownsRow_nil _ _ _ _, fun j x h => by simp at h, fun i j a z b _ h => by simp at h, fun j a b h => by simp at h⟩

theorem CL.keep {T : List (List Ins)} {E : List Evt} {w w' : World} {base : Nat} {V : Value} {C : List Nat} {vs : List Value} (h : CL T E w base V C vs) (hb : Below w.heap.size w w') : CL T E w' base V C vs := by
  refine ⟨own_keep h.own hb, fun j x hx => ?_, h.apart, fun j a b ha hb' => Nat.lt_of_lt_of_le (h.blt j a b ha hb') hb.size⟩
  obtain ⟨vf, vo, u, h1, h2, h3, h4, h5⟩ := h.rows j x hx
  exact ⟨vf, vo, u, h1, h2, h3, h4, fun w'' hs hk => h5 w'' (Nat.le_trans hb.size hs) (fun b hb0 hb1 hb2 => (hk b hb0 (Nat.lt_of_lt_of_le hb1 hb.size) hb2).trans (hb.block b hb1))⟩

theorem CL.snoc {T : List (List Ins)} {E : List Evt} {w w2 : World} {base : Nat} {V V' : Value} {C : List Nat} {vs : List Value} (h : CL T E w base V C vs) {n : Nat} {vf vo u : Value} {o : Obj} (hst : StabC T E base w V vf vo u n) (hnew : ∀ (j : Nat) (a : Value) (b : Nat), vs[j * 4 + 3]? = some a → a.ownBlock = some b → u.ownBlock ≠ some b) (hult : ∀ b, u.ownBlock = some b → b < w.heap.size)
    (hown : w2.ownsRow base 96 4 V' (C.length + 1) (vs ++ [.int .i64 n, vf, vo, u])) (hg : (w.alloc o).grownBy w2 V.ownBlock) (hap : ∀ g, V'.ownBlock = some g → V.ownBlock = some g ∨ w.heap.size + 1 ≤ g) : CL T E w2 base V' (C ++ [n]) (vs ++ [.int .i64 n, vf, vo, u]) := by
  have hsz : w.heap.size + 1 ≤ w2.heap.size := by have := hg.size; simpa using this
  have hstab : ∀ f o u y, StabC T E base w V f o u y → StabC T E base w2 V' f o u y := by
    intro f o u y hy w'' hs hk
    refine hy w'' (by omega) (fun b hb0 hb1 hb2 => ?_)
    have hne : V'.ownBlock ≠ some b := fun e => by
      rcases hap b e with e' | e'
      · exact hb2 e'
      · omega
    rw [hk b hb0 (by omega) hne, hg.block b (by simp; omega) (fun e => hb2 e.symm), Below.heap_alloc _ _ _ hb1]
  have hlen : vs.length = C.length * 4 := h.own.1
  have hthree : ∀ (j : Nat) (a : Value), (vs ++ [.int .i64 n, vf, vo, u])[j * 4 + 3]? = some a → (j < C.length ∧ vs[j * 4 + 3]? = some a) ∨ (j = C.length ∧ a = u) := fun j a ha => by
    by_cases hj : j < C.length
    · rw [List.getElem?_append_left (by omega)] at ha
      exact .inl ⟨hj, ha⟩
    · have hjl := (List.getElem?_eq_some_iff.1 ha).1
      rw [List.length_append, hlen] at hjl
      simp at hjl
      have hjC : j = C.length := by omega
      subst hjC
      rw [List.getElem?_append_right (by omega), hlen, show C.length * 4 + 3 - C.length * 4 = 3 by omega] at ha
      exact .inr ⟨rfl, by simpa using ha.symm⟩
  refine ⟨by simpa using hown, fun j y hy => ?_, fun i j a z b hij ha hz hb => ?_, fun j a b ha hb => ?_⟩
  rotate_left
  · rcases hthree i a ha with ⟨i1, i2⟩ | ⟨i1, i2⟩
    · rcases hthree j z hz with ⟨j1, j2⟩ | ⟨j1, j2⟩
      · exact h.apart i j a z b hij i2 j2 hb
      · rw [j2]; exact hnew i a b i2 hb
    · rcases hthree j z hz with ⟨j1, _⟩ | ⟨j1, _⟩ <;> omega
  · rcases hthree j a ha with ⟨_, j2⟩ | ⟨_, j2⟩
    · have := h.blt j a b j2 hb; omega
    · rw [j2] at hb; have := hult b hb; omega
  by_cases hj : j < C.length
  · rw [List.getElem?_append_left hj] at hy
    obtain ⟨f, o, u', h1, h2, h3, h4, h5⟩ := h.rows j y hy
    refine ⟨f, o, u', ?_, ?_, ?_, ?_, hstab _ _ _ _ h5⟩ <;> rw [List.getElem?_append_left (by omega)] <;> assumption
  · have hjL : j = C.length := by
      have := (List.getElem?_eq_some_iff.1 hy).1
      simp at this; omega
    subst hjL
    rw [List.getElem?_append_right (Nat.le_refl _), Nat.sub_self] at hy
    simp at hy
    subst hy
    refine ⟨vf, vo, u, ?_, ?_, ?_, ?_, hstab _ _ _ _ hst⟩
    · rw [List.getElem?_append_right (by omega), hlen, Nat.sub_self]; rfl
    · rw [List.getElem?_append_right (by omega), hlen, show C.length * 4 + 1 - C.length * 4 = 1 by omega]; rfl
    · rw [List.getElem?_append_right (by omega), hlen, show C.length * 4 + 2 - C.length * 4 = 2 by omega]; rfl
    · rw [List.getElem?_append_right (by omega), hlen, show C.length * 4 + 3 - C.length * 4 = 3 by omega]; rfl

theorem CL.read0 {T : List (List Ins)} {E : List Evt} {w : World} {base : Nat} {V : Value} {C : List Nat} {vs : List Value} (h : CL T E w base V C vs) {B : Nat} (hB : B ≤ base) (hBs : ∀ (w' : World) (vf vo u : Value) (n : Nat), ExeF base w' vf vo (exN E n) ∧ IntF base w' u (stX T E (exN E n)) → ExeF B w' vf vo (exN E n) ∧ IntF B w' u (stX T E (exN E n))) : CasAp T E B w V C := by
  rcases h.own.2 with ⟨hv, hn⟩ | ⟨g, cap, cur, hv, hg, hh, _⟩
  · have h0 : C = [] := List.eq_nil_of_length_eq_zero hn
    subst h0
    exact ⟨none, 0, 0, 0, ⟨hv, fun h => absurd rfl h, fun _ => ⟨rfl, rfl⟩, fun k x h => by simp at h⟩, fun i j a z b _ hj => by simp at hj⟩
  · have hvl : vs.length = C.length * 4 := h.own.1
    have hc3 : ∀ (j : Nat) (a : Value), j < C.length → w.cell? ⟨g, 0 + j * 4 + 3, none⟩ = some a → vs[j * 4 + 3]? = some a := fun j a hj ha => by
      obtain ⟨u, hu⟩ := get_of_lt (l := vs) (k := j * 4 + 3) (by omega)
      have := h.own.cells (g := g) (by rw [hv]; rfl) (j * 4 + 3) u hu
      rw [Addr.add_lit, ← Nat.add_assoc, ha] at this
      rw [hu, Option.some.inj this]
    refine ⟨_, g, 0, cap, ⟨hv, fun _ => rfl, fun h => (by simp at h), fun k x hk => ?_⟩, fun i j a z b hij hj ha hz hb => h.apart i j a z b hij (hc3 i a (by omega) ha) (hc3 j z hj hz) hb⟩
    obtain ⟨vf, vo, u, h1, h2, h3, h4, h5⟩ := h.rows k x hk
    have c1 := h.own.cells (g := g) (by rw [hv]; rfl) (k * 4) _ h1
    have c2 := h.own.cells (g := g) (by rw [hv]; rfl) (k * 4 + 1) _ h2
    have c3 := h.own.cells (g := g) (by rw [hv]; rfl) (k * 4 + 2) _ h3
    have c4 := h.own.cells (g := g) (by rw [hv]; rfl) (k * 4 + 3) _ h4
    rw [Addr.add_lit] at c1 c2 c3 c4
    exact ⟨vf, vo, u, c1, by rw [Nat.add_assoc]; exact c2, by rw [Nat.add_assoc]; exact c3, by rw [Nat.add_assoc]; exact c4, fun w' hs hk => hBs w' _ _ _ _ (h5 w' hs (fun b h1 h2 _ => hk b (by omega) h2))⟩

theorem CL.read {T : List (List Ins)} {E : List Evt} {w : World} {base : Nat} {V : Value} {C : List Nat} {vs : List Value} (h : CL T E w base V C vs) {B : Nat} (hB : B ≤ base) : CasAp T E B w V C := h.read0 hB fun _ _ _ _ _ ⟨q1, q2⟩ => ⟨q1.less hB, own_base q2 hB⟩

theorem stab_case {T : List (List Ins)} {E : List Evt} {B : Nat} {w1 w3 w5 w6 : World} {V vf vo u : Value} {n : Nat} (hB : B ≤ w1.heap.size) (hx : ExeF w1.heap.size w3 vf vo (exN E n)) (hu : IntF w5.heap.size w6 u (stX T E (exN E n))) (h13 : w1.heap.size ≤ w3.heap.size) (h35 : Below w3.heap.size w3 w5) (h36 : Below w3.heap.size w3 w6) (hV : ∀ g, V.ownBlock = some g → g < w1.heap.size) : StabC T E B w6 V vf vo u n := by
  intro w' hs hk
  have h5 := h35.size
  have h6 := h36.size
  refine ⟨(hx.other (fun b hb1 hb2 => ?_)).less hB, own_base (own_other hu (fun b hb => ?_)) (by omega)⟩
  · rw [hk b (by omega) (by omega) (fun e => by have := hV b e; omega), h36.block b hb2]
  · obtain ⟨q1, q2⟩ := World.ownsRow.lt hu b hb
    exact hk b (by omega) q2 (fun e => by have := hV b e; omega)

set_option maxRecDepth 20000 in
set_option maxHeartbeats 4000000 in
theorem cases_own (T : List (List Ins)) (c : List Atm) (hz : ((chk T c).1 == 0) = true) (al : Nat → Bool) (hal : Als T (evsT T 0) al) (vt v : Value) (w : World) (ht : ThrAt w vt T) (h : Ev4Cap w v (evsT T 0)) :
    Calls Tryz.prog 85 #[vt, v] w fun e w' => ∃ u, e = .returned u ∧ CasAp T (evsT T 0) w.heap.size w' u (casN al (sizeN (evsT T 0))) ∧ Below w.heap.size w w' := by
  have hF := fits_of hz
  have hM := mts_of hz
  have hN := chk_many_no hz
  have hin := evsIn_T T
  have HCT : Hid (∀ w', Below w.heap.size w w' → Calls Tryz.prog 118 #[v] w' fun e w'' => e = .returned (.int .i64 (sizeN (evsT T 0) : Nat)) ∧ Below w'.heap.size w' w'') := fun w' hb => by
    have := countP_any (evsT T 0) hF.el v w' (h.at'.keep hb)
    rw [cap2_of_le (by omega)] at this
    exact this
  have HNT : Hid (∀ n w', n < sizeN (evsT T 0) → Below w.heap.size w w' → Calls Tryz.prog 119 #[v, .int .i64 n] w' fun e w'' => ∃ vf vo, e = .returned (.tuple #[.agg #[vf, vo], .int .i64 0]) ∧ ExeF w'.heap.size w'' vf vo (exN (evsT T 0) n) ∧ Below w'.heap.size w' w'') := fun n w' hn hb => nth_own (evsT T 0) hF.el v n w' (h.at'.keep hb) hn hN
  obtain ⟨rj, hrj⟩ : ∃ rj : Nat → Int, ∀ n, JudIs (Cyc (evsT T 0).length (cohA (evsT T 0) (exN (evsT T 0) n))) (tornB (evsT T 0) (exN (evsT T 0) n)) (Cyc (evsT T 0).length (kepA T (evsT T 0) (exN (evsT T 0) n))) (¬ Parts (evsT T 0).length (mtL (thoL 2 (evsT T 0) 0) (thoL 3 (evsT T 0) 0) (thoL 4 (evsT T 0) 0)) (kepA T (evsT T 0) (exN (evsT T 0) n))) (rj n) :=
    ⟨fun n => Classical.choose (JudIs.ex _ _ _ _), fun n => Classical.choose_spec (JudIs.ex _ _ _ _)⟩
  have HRZ : Hid (∀ n, n < sizeN (evsT T 0) → (rj n == 0) = al n) := fun n hn => by
    rw [Bool.eq_iff_iff, hal n hn, beq_iff_eq]
    exact (hrj n).zero
  have HJD : Hid (∀ n vf vo w', Below w.heap.size w w' → ExeAt w' vf vo (exN (evsT T 0) n) → Calls Tryz.prog 54 #[vt, v, .agg #[vf, vo]] w' fun e w'' => e = .returned (.int .i64 (rj n)) ∧ Below w'.heap.size w' w'') := fun n vf vo w' hb hx => by
    have hxx := exN_isEx (evsT T 0) n
    have hrk := hxx.ranks hF.el hF.locs
    obtain ⟨j1, j2, j3, j4⟩ := judge_same' (T := T) rfl hF.el hF.locs hxx
    have hfl : (exN (evsT T 0) n).from'.length ≤ 96 := by have h1 := hxx.f; have h2 := rdsX_len (evsT T 0) 0; have h3 := hF.el; omega
    refine (of_any T hF.short vt (evsT T 0) hF.el hin hM (exN (evsT T 0) n) hfl (by have := hxx.o3; omega) (hxx.xok hF.el hF.locs).l96 hrk.bound v _ _ w' (ht.keep hb) (h.keep hb) hx).mono ?_
    rintro e w'' ⟨r, he, hj, hb'⟩
    exact ⟨by rw [he, (hj.congr' j1 j2 j3 j4).one (hrj n)], hb'⟩
  have HST : Hid (∀ n vf vo w', n < sizeN (evsT T 0) → al n = true → Below w.heap.size w w' → ExeAt w' vf vo (exN (evsT T 0) n) → Calls Tryz.prog 40 #[vt, v, .agg #[vf, vo]] w' fun e w'' => ∃ u, e = .returned u ∧ IntF w'.heap.size w'' u (stX T (evsT T 0) (exN (evsT T 0) n)) ∧ Below w'.heap.size w' w'') := fun n vf vo w' hn ha hb hx => by
    have hxx := exN_isEx (evsT T 0) n
    refine (stateOf_own T hF.short vt (evsT T 0) hF.el hin _ hxx v vf vo w' (ht.keep hb) (h.at'.keep hb) hx).mono ?_
    rintro e w'' ⟨u, he, hu, hb'⟩
    rw [sta_same rfl hF.el hF.locs hxx (alw_cyc ((hal n hn).1 ha))] at hu
    exact ⟨u, he, hu, hb'⟩
  have HCY : Hid (∀ k, al k = true → casN al (k + 1) = casN al k ++ [k]) := fun k hk => casN_yes hk
  have HCN : Hid (∀ k, al k = false → casN al (k + 1) = casN al k) := fun k hk => casN_no hk
  have HCL : Hid (∀ k, (casN al k).length ≤ k) := fun k => casN_len al k
  have HC0 : Hid (casN al 0 = []) := rfl
  obtain ⟨_, aoT, bT, offT, capT, hvT, _⟩ := ht
  obtain ⟨ao, b, off, cap, ⟨hv, _, _, _⟩, _⟩ := h
  subst hv hvT
  clear hrj hal hz hM hin hF
  generalize evsT T 0 = E at *
  generalize casN al = CN at *
  generalize sizeN E = N at *
  obtain ⟨i1, hi, hz0, hz1, hz2⟩ := info_parts Tryz.infoCase
  have HI : Hid (Tryz.prog.info? 96 = some i1 ∧ i1.zero = some (.agg #[.int .i64 0, .slice none 0 0, .slice none 0 0, .slice none 0 0]) ∧ i1.size = 4 ∧ i1.bytes = 80) := ⟨hi, hz0, hz1, hz2⟩
  clear hi hz0 hz1 hz2
  go_enter Tryz.func85, Tryz.ntmps85
  go_wp2_with fail
  refine (HCT.out w (Below.refl _ _)).mono ?_
  rintro e w2 ⟨rfl, hb2⟩
  clear HCT
  go_wp2_with fail
  go_loopw [5, 7] (fun u i wr => ∃ (k : Nat) (vs : List Value), k ≤ N ∧ i = .int .i64 k ∧ Hid (CL T E wr w2.heap.size u (CN k) vs) ∧ Below w2.heap.size w2 wr) (fun _ i _ => N - (intOf i).toNat)
  case atStart => exact ⟨0, [], Nat.zero_le _, rfl, by show CL _ _ _ _ _ _ _; rw [HC0.out]; exact CL.nil _ _ _ _, Below.refl _ _⟩
  case round =>
    clear HC0
    obtain ⟨k, vs, hk, rfl, hCL, hb⟩ := hrel
    have hbw := below_more hb2 hb
    by_cases hlt : k < N
    · have hkI : (k : Int) < (N : Int) := by omega
      have hrz := HRZ.out k hlt
      have hcl := HCL.out k
      go_wp2_with fail
      refine (HNT.out k wr hlt hbw).mono ?_
      rintro e w3 ⟨vf, vo, rfl, hxn, hb3⟩
      obtain ⟨aof, capf, hff⟩ := hxn.new.at'.f.form
      obtain ⟨aoo, bo, offo, capo, hso⟩ := hxn.new.at'.o
      have hfo := hso.hv
      clear hso
      subst hff hfo
      generalize hlf : (exN E k).from'.length = lf at *
      generalize hlo : (exN E k).order.length = lo at *
      clear hlf hlo
      have HXN : Hid (ExeF wr.heap.size w3 (.slice aof lf capf) (.slice aoo lo capo) (exN E k)) := hxn
      have hbw3 := below_more hbw hb3
      have hba3 := below_alloc w3 (.cells #[.slice aof lf capf, .slice aoo lo capo] 29)
      have hbw4 := below_more hbw3 hba3
      have hJ1 := HJD.out k _ _ _ hbw4 (hxn.new.at'.keep hba3)
      have HJ1 : Hid (Calls Tryz.prog 54 #[.slice aoT T.length capT, .slice ao E.length cap, .agg #[.slice aof lf capf, .slice aoo lo capo]] (w3.alloc (.cells #[.slice aof lf capf, .slice aoo lo capo] 29)) fun e w'' => e = .returned (.int .i64 (rj k)) ∧ Below (w3.alloc (.cells #[.slice aof lf capf, .slice aoo lo capo] 29)).heap.size (w3.alloc (.cells #[.slice aof lf capf, .slice aoo lo capo] 29)) w'') := hJ1
      have HS1 : Hid (∀ w', al k = true → Below w3.heap.size w3 w' → Calls Tryz.prog 40 #[.slice aoT T.length capT, .slice ao E.length cap, .agg #[.slice aof lf capf, .slice aoo lo capo]] w' fun e w'' => ∃ u, e = .returned u ∧ IntF w'.heap.size w'' u (stX T E (exN E k)) ∧ Below w'.heap.size w' w'') := fun w' ha hb' => HST.out k _ _ w' hlt ha (below_more hbw3 hb') (HXN.out.new.at'.keep hb')
      generalize rj k = r at HJ1 hrz
      clear hxn hJ1
      go_wp2_with fail
      refine HJ1.out.mono ?_
      rintro e w5 ⟨rfl, hb45⟩
      have hb35 := below_more hba3 hb45
      have x0 := keep_cell hb45 (b := w3.heap.size) (off := 0) (u := .slice aof lf capf) (by simp)
      have x1 := keep_cell hb45 (b := w3.heap.size) (off := 1) (u := .slice aoo lo capo) (by simp)
      have hb15 := below_more hb3 hb35
      clear HJ1 hb45
      cases hr : r == 0
      · have hak : al k = false := by rw [← hrz]; exact hr
        have HC5 : Hid (CL T E w5 w2.heap.size u5 (CN (k + 1)) vs) := by rw [HCN.out k hak]; exact hCL.out.keep hb15
        have hb25 := below_more hb hb15
        clear hCL x0 x1
        go_wp2_with fail
        go_roundw
        case measure => simp [intOf]; omega
        case rel => exact ⟨k + 1, vs, by omega, by go_num, HC5.out, hb25⟩
      · have hak : al k = true := by rw [← hrz]; exact hr
        go_wp2_with fail
        refine (HS1.out w5 hak hb35).mono ?_
        rintro e w6 ⟨u6, rfl, hu6, hb6⟩
        have hb36 := below_more hb35 hb6
        have hb16 := below_more hb15 hb6
        have hVl := hCL.out.own.lt
        have HSB : Hid (StabC T E w2.heap.size w6 u5 (.slice aof lf capf) (.slice aoo lo capo) u6 k) := stab_case hb.size HXN.out hu6 hb3.size hb35 hb36 (fun g hg => (hVl g hg).2)
        have HC6 : Hid (CL T E w6 w2.heap.size u5 (CN k) vs) := hCL.out.keep hb16
        have HO6 : Hid (w6.ownsRow w2.heap.size 96 4 u5 (CN k).length vs) := HC6.out.own
        have HU6 : Hid (∀ b, u6.ownBlock = some b → w5.heap.size ≤ b ∧ b < w6.heap.size) := World.ownsRow.lt hu6
        have hs15 := hb15.size
        obtain ⟨ao6, cap6, hf6⟩ := hu6.new.at'.form
        have hb26 := below_more hb hb16
        have hs6 := hb26.size
        replace x0 := keep_cell hb6 x0
        replace x1 := keep_cell hb6 x1
        clear hu6 hVl
        subst hf6
        generalize (stX T E (exN E k)).length = l6 at *
        generalize hcl2 : (CN k).length = lc at *
        go_wp2_with (at_builtin; refine append_new _ rfl _ _ 126 rfl w2.heap.size 96 i1 (.agg #[.int .i64 0, .slice none 0 0, .slice none 0 0, .slice none 0 0]) 4 80 Tryz.underlying126 HI.out.1 HI.out.2.1 HI.out.2.2.1 HI.out.2.2.2 rfl (by decide) u5 lc vs rfl (HO6.out.alloc _) (some ⟨w6.heap.size, 0, none⟩) 1 1 [.int .i64 k, .slice aof lf capf, .slice aoo lo capo, .slice ao6 l6 cap6] rfl (fun h => by cases h) rfl (fun ad had => by cases had; exact new_many rfl) (by simp [Value.oneCell']) (by unfold maxLen; omega) (by omega) (by simp; omega) ?_)
        intro V8 w8 hown8 hgrow8 hap8
        have HC8 : Hid (CL T E w8 w2.heap.size V8 (CN (k + 1)) (vs ++ [.int .i64 k, .slice aof lf capf, .slice aoo lo capo, .slice ao6 l6 cap6])) := by
          rw [HCY.out k hak]
          exact HC6.out.snoc HSB.out (fun j a b ha hb' e => by have h1 := hCL.out.blt j a b ha hb'; have h2 := (HU6.out b e).1; omega) (fun b hb' => (HU6.out b hb').2) (by rw [hcl2]; exact hown8) hgrow8 (by simpa using hap8)
        have HB8 : Hid (Below w2.heap.size w2 w8) := Below.grown (hb26.alloc hs6 _) hgrow8 (by simp; omega) (fun kk e => (HO6.out.lt kk e).1)
        clear hown8 hgrow8 hap8
        go_wp2_with fail
        go_roundw
        case measure => simp [intOf]; omega
        case rel => exact ⟨k + 1, _, by omega, by go_num, HC8.out, HB8.out⟩
    · have hkN : k = N := by omega
      have HOK : Hid (CasAp T E w.heap.size wr u5 (CN N)) := by have := hCL.out.read hb2.size; rw [hkN] at this; exact this
      have hkI : (N : Int) ≤ (k : Int) := by omega
      clear hkN hCL
      go_wp2_with fail
      go_ret
      exact ⟨_, rfl, HOK.out, hbw⟩

theorem cases_any (T : List (List Ins)) (c : List Atm) (hz : ((chk T c).1 == 0) = true) (al : Nat → Bool) (hal : Als T (evsT T 0) al) (vt v : Value) (w : World) (ht : ThrAt w vt T) (h : Ev4Cap w v (evsT T 0)) :
    Calls Tryz.prog 85 #[vt, v] w fun e w' => ∃ u, e = .returned u ∧ CasAt T (evsT T 0) w.heap.size w' u (casN al (sizeN (evsT T 0))) ∧ Below w.heap.size w w' :=
  (cases_own T c hz al hal vt v w ht h).mono fun _ _ ⟨u, he, hu, hb⟩ => ⟨u, he, hu.at', hb⟩

end Go.Proofs.YtomijmikkbhgmaaGreat
