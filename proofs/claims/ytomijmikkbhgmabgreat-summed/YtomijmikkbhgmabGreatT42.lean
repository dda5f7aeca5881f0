import Derived.Test.YtomijmikkbhgmabGreatT41
import Derived.Test.YtomijmikkbhgmabGreatLt
import Derived.Deep.CutRange
import Derived.Deep.RegionWith
import Derived.Test.YtomijmikkbhgmabGreatT38
import Derived.Test.YtomijmikkbhgmabGreatT14
namespace Go.Proofs.YtomijmikkbhgmabGreat
open Go.RowKit

abbrev outT (al : Nat → Bool) (T : List (List Ins)) : List (List Int × Nat) := outK (stsL al T (evsT T 0) (sizeN (evsT T 0)))

structure KFit (n : Nat) (K : List (List Int × Nat)) : Prop where
  few : K.length ≤ 2000
  len : ∀ p ∈ K, p.1.length = n
  srt : SrtK K
  pos : ∀ p ∈ K, 1 ≤ p.2
  ne : K ≠ []

theorem outT_fit {T : List (List Ins)} {c : List Atm} {al : Nat → Bool} (hal : Als T (evsT T 0) al) (h1 : (chk T c).1 = 0) : KFit (3 * T.length + 3) (outT al T) := by
  have hz : ((chk T c).1 == 0) = true := by simpa using h1
  obtain ⟨s1, s2, s3, s4⟩ := outK_spec (n := 3 * T.length + 3) (L := stsL al T (evsT T 0) (sizeN (evsT T 0))) (fun s hs => by
    unfold stsL at hs
    rw [casN_states] at hs
    obtain ⟨n, _, rfl⟩ := List.mem_map.1 hs
    exact stX_len _ _ _)
  refine ⟨?_, s2, s1, s3, ?_⟩
  · have e1 := outK_len (stsL al T (evsT T 0) (sizeN (evsT T 0)))
    have e2 := List.length_filterMap_le id (optL al T (evsT T 0) (sizeN (evsT T 0)))
    have e3 := optL_len al T (evsT T 0) (sizeN (evsT T 0))
    have e4 := chk_many_no hz
    unfold stsL at e1
    unfold outT stsL
    omega
  · obtain ⟨n, hn, ha⟩ := some_allowed hz
    have hm : stX T (evsT T 0) (exN (evsT T 0) n) ∈ stsL al T (evsT T 0) (sizeN (evsT T 0)) := by
      unfold stsL
      rw [casN_states]
      refine List.mem_map.2 ⟨n, ?_, rfl⟩
      unfold casN
      exact List.mem_filter.2 ⟨List.mem_range.2 hn, (hal n hn).2 ha⟩
    have h2 := cnSt_pos.2 hm
    rw [← s4] at h2
    obtain ⟨p, hp, _⟩ := cnOu_pos h2
    intro h0
    unfold outT at h0
    rw [h0] at hp
    cases hp

/-- What litmuskeep's outcomes hands back, with true. -/
def KOut (T : List (List Ins)) (c : List Atm) (al : Nat → Bool) (w : World) (u : Value) : Prop :=
  ((chk T c).1 ≠ 0 ∧ u = .slice none 0 0) ∨ ((chk T c).1 = 0 ∧ OutAt w u (outT al T))

theorem OutAt.form2 {w : World} {v : Value} {K : List (List Int × Nat)} (h : OutAt w v K) (hne : K ≠ []) : ∃ r cap, v = .slice (some r) K.length cap := by
  obtain ⟨ao, b, off, cap, hu1, ha, _, hc⟩ := h
  obtain rfl := ha hne
  exact ⟨_, _, hu1⟩

set_option maxRecDepth 20000 in
set_option maxHeartbeats 2000000 in
theorem outcomesK_any (T : List (List Ins)) (fa : Bool) (c : List Atm) (al : Nat → Bool) (hal : Als T (evsT T 0) al) (vt vc : Value) (w : World) (h : TestAt w (.agg #[vt, .bool fa, vc]) T fa c vt vc) :
    Calls Tryz.prog 4 #[.agg #[vt, .bool fa, vc]] w fun e w' => ∃ u, e = .returned (.tuple #[u, .bool true]) ∧ KOut T c al w' u ∧ Below w.heap.size w w' := by
  have HC1 : Hid (∀ w', Below w.heap.size w w' → Calls Tryz.prog 6 #[.agg #[vt, .bool fa, vc]] w' fun e w'' => ∃ vt' vc', e = .returned (.agg #[vt', .bool fa, vc']) ∧ Hid (TestAt w'' (.agg #[vt', .bool fa, vc']) T fa c vt' vc') ∧ Below w'.heap.size w' w'') := fun w' hb => copy_any T fa c _ vt vc w' (h.keep hb)
  have HC3 : Hid (∀ w' vt' vc', TestAt w' (.agg #[vt', .bool fa, vc']) T fa c vt' vc' → Calls Tryz.prog 15 #[.agg #[vt', .bool fa, vc']] w' fun e w'' => ∃ (u : Value) (er : Int), e = .returned (.tuple #[u, .int .i64 er]) ∧ Hid (OOut T c al w'' u er) ∧ Below w'.heap.size w' w'') := fun w' vt' vc' ht => outcomesP_any T fa c al hal vt' vc' w' ht
  have HC4 : Hid (∀ w', Below w.heap.size w w' → Calls Tryz.prog 16 #[.agg #[vt, .bool fa, vc]] w' fun e w'' => e = .returned (.int .i64 (chk T c).1) ∧ Below w'.heap.size w' w'') := fun w' hb => asked_any T fa c _ vt vc w' (h.keep hb)
  have HJ : Hid (∀ w' u er, OOut T c al w' u er → ((chk T c).1 ≠ 0 ∧ er = (chk T c).1 ∧ u = .slice none 0 0) ∨ ((chk T c).1 = 0 ∧ er = 0 ∧ OutAt w' u (outT al T))) := fun _ _ _ h => h
  have HF : Hid ((chk T c).1 = 0 → KFit (3 * T.length + 3) (outT al T)) := outT_fit hal
  have HT4 : Hid ((chk T c).1 = 0 → T.length ≤ 4) := fun h => (fits_of (by simpa using h)).short.t4
  have HM : Hid (∀ w' u, ((chk T c).1 ≠ 0 ∧ u = .slice none 0 0) ∨ ((chk T c).1 = 0 ∧ OutAt w' u (outT al T)) → KOut T c al w' u) := fun _ _ h => h
  generalize KOut T c al = M at HM ⊢
  generalize OOut T c al = J at HC3 HJ
  generalize (chk T c).1 = q at HC4 HJ HF HM HT4
  generalize outT al T = K at HJ HF HM
  obtain ⟨ht0, aot, bt, offt, capt, htv, _⟩ := h.ht.opened
  obtain ⟨hc0, aoc, bc, offc, capc, hsc⟩ := h.hc
  have hcv := hsc.hv
  subst htv hcv
  clear h hsc hal
  go_enter Tryz.func4, Tryz.ntmps4
  go_wp2_with fail
  have hba := below_alloc w (.cells #[.slice aot T.length capt, .bool fa, .slice aoc c.length capc] 25)
  refine (HC1.out _ hba).mono ?_
  rintro e w3 ⟨vt3, vc3, rfl, ht3, hb3⟩
  go_wp2_with fail
  refine (HC3.out w3 vt3 vc3 ht3.out).mono ?_
  rintro e w4 ⟨u4, er4, rfl, hj4, hb4⟩
  have hb34 := below_more hb3 hb4
  have t0 := keep_cell hb34 (b := w.heap.size) (off := 0) (u := .slice aot T.length capt) (by simp)
  have t1 := keep_cell hb34 (b := w.heap.size) (off := 1) (u := .bool fa) (by simp)
  have t2 := keep_cell hb34 (b := w.heap.size) (off := 2) (u := .slice aoc c.length capc) (by simp)
  have hbw4 := below_more hba hb34
  clear ht3 hb3 hb4 hb34
  go_wp2_with fail
  refine (HC4.out w4 hbw4).mono ?_
  rintro e w6 ⟨rfl, hb6⟩
  have hbw6 := below_more hbw4 hb6
  rcases HJ.out _ _ _ hj4.out with ⟨q0, rfl, rfl⟩ | ⟨q0, rfl, hu4⟩
  · have k1 : (er4 != er4) = false := by simp
    have k2 : (er4 != 0) = true := by simpa using q0
    have HMM : Hid (M w6 (.slice none 0 0)) := HM.out _ _ (.inl ⟨q0, rfl⟩)
    clear hj4 t0 t1 t2 q0 HJ HM HF hb6 hbw4 HC3
    go_wp2_with fail
    go_ret2
    exact ⟨_, rfl, HMM.out, hbw6⟩
  · have hf := HF.out q0
    have hT4 := HT4.out q0
    subst q0
    obtain ⟨r, cap, rfl⟩ := hu4.form2 hf.ne
    have hlen : decide (0 < K.length) = true := by have := List.length_pos_iff.2 hf.ne; simpa using this
    have HR : Hid (Calls Tryz.prog 17 #[.slice (some r) K.length cap] w6 fun e w'' => e = .returned (.bool true) ∧ Below w6.heap.size w6 w'') := rising_any K hf.few (fun p hp => by have := hf.len p hp; omega) hf.srt hf.pos _ w6 (hu4.keep hb6)
    have HU : Hid (∀ w', Below w6.heap.size w6 w' → M w' (.slice (some r) K.length cap)) := fun w' hb => HM.out _ _ (.inr ⟨rfl, (hu4.keep hb6).keep hb⟩)
    clear hj4 t0 t1 t2 HJ HM HF hb6 hbw4 HC3 hf hu4 HT4 hT4
    generalize K.length = ln at *
    go_wp2_with fail
    refine HR.out.mono ?_
    rintro e w7 ⟨rfl, hb7⟩
    have HMM : Hid (M w7 (.slice (some r) ln cap)) := HU.out _ hb7
    go_wp2_with fail
    go_ret2
    exact ⟨_, rfl, HMM.out, below_more hbw6 hb7⟩

end Go.Proofs.YtomijmikkbhgmabGreat

namespace Go.Proofs.YtomijmikkbhgmabGreat
open Go.RowKit

theorem take_step {l m : List Int} {k : Nat} {x : Int} (h : l.take k = m.take k) (hx : l[k]? = some x) (hy : m[k]? = some x) : l.take (k + 1) = m.take (k + 1) := by
  rw [List.take_add_one, List.take_add_one, h, hx, hy]

set_option maxHeartbeats 1000000 in
theorem sameK_any (l m : List Int) (hl : l.length ≤ 100000) (_hm : m.length ≤ 100000) (u v : Value) (w : World) (hu : IntAt w u l) (hv : IntAt w v m) :
    Calls Tryz.prog 13 #[u, v] w fun e w' => e = .returned (.bool (l == m)) ∧ Below w.heap.size w w' := by
  obtain ⟨ao, b, off, cap, hv1, ha, _, hc⟩ := hu
  obtain ⟨ao2, b2, off2, cap2, hv2, ha2, _, hc2⟩ := hv
  subst hv1 hv2
  have HC : Hid ((∀ k x, l[k]? = some x → IntC w b (off + k * 1) x) ∧ (∀ k x, m[k]? = some x → IntC w b2 (off2 + k * 1) x)) := ⟨hc, hc2⟩
  clear hc hc2
  generalize hR : (l == m) = R
  have HR : Hid ((l == m) = R) := hR
  clear hR
  by_cases hlm : l.length = m.length
  · have k0 : ((l.length : Int) != (m.length : Int)) = false := by simp [hlm]
    have HL : Hid (l.length = m.length) := hlm
    clear hlm
    go_enter Tryz.func13, Tryz.ntmps13
    go_wp2_with fail
    go_loopw [5] (fun i wr => ∃ k : Nat, k ≤ l.length ∧ i = .int .i64 k ∧ Hid (l.take k = m.take k) ∧ Below w.heap.size w wr) (fun i _ => l.length - (intOf i).toNat)
    case atStart => exact ⟨0, Nat.zero_le _, rfl, by simp [Hid], Below.refl _ _⟩
    case round =>
      obtain ⟨k, hk, rfl, HK, hb⟩ := hrel
      by_cases hlt : k < l.length
      · have hlt2 : k < m.length := HL.out ▸ hlt
        obtain ⟨x, hx⟩ := get_of_lt hlt
        obtain ⟨y, hy⟩ := get_of_lt hlt2
        obtain rfl := ha (ne_nil hlt)
        obtain rfl := ha2 (ne_nil hlt2)
        have c0 := intC_keeps _ _ _ _ _ hb (HC.out.1 k x hx)
        have d0 := intC_keeps _ _ _ _ _ hb (HC.out.2 k y hy)
        unfold IntC at c0 d0
        rw [Nat.mul_one] at c0 d0
        have hkI : (k : Int) < (l.length : Int) := by omega
        have hkI2 : (k : Int) < (m.length : Int) := by omega
        by_cases hxy : x = y
        · subst hxy
          have HM : Hid (l.take (k + 1) = m.take (k + 1)) := take_step HK.out hx hy
          have n0 : (x != x) = false := by simp
          clear hx hy HK
          go_wp2_with fail
          go_quiet (fail)
          go_wp2_with fail
          go_roundw
          case measure => simp [intOf]; omega
          case rel => exact ⟨k + 1, by omega, by go_num, HM.out, below_drewN hb _⟩
        · have n0 : (x != y) = true := by simpa using hxy
          have hne : R = false := by
            rw [← HR.out]
            refine beq_eq_false_iff_ne.2 fun e => hxy ?_
            rw [e, hy] at hx
            exact (Option.some.inj hx).symm
          subst hne
          clear hx hy HK HR
          go_wp2_with fail
          go_quiet (fail)
          go_wp2_with fail
          go_ret
          exact ⟨rfl, below_drewN hb _⟩
      · have hkI : (l.length : Int) ≤ (k : Int) := by omega
        have he : R = true := by
          have h1 := HK.out
          rw [List.take_of_length_le (by omega), List.take_of_length_le (by have := HL.out; omega)] at h1
          rw [← HR.out, h1]
          simp
        subst he
        clear HK HR
        go_wp2_with fail
        go_ret
        exact ⟨rfl, hb⟩
  · have k0 : ((l.length : Int) != (m.length : Int)) = true := by simp; omega
    have hne : R = false := by
      rw [← HR.out]
      exact beq_eq_false_iff_ne.2 fun e => hlm (by rw [e])
    subst hne
    clear hlm HR
    go_enter Tryz.func13, Tryz.ntmps13
    go_wp2_with fail
    go_ret
    exact ⟨rfl, Below.refl _ _⟩

theorem cnOu_drop_no {K : List (List Int × Nat)} {k : Nat} {p : List Int × Nat} {t : List Int} (hp : K[k]? = some p) (h : (p.1 == t) = false) : cnOu (K.drop k) t = cnOu (K.drop (k + 1)) t := by
  rw [drop_cons hp, cnOu, if_neg (by simp [h]), Nat.zero_add]

set_option maxRecDepth 20000 in
set_option maxHeartbeats 2000000 in
theorem counted_any (n : Nat) (K : List (List Int × Nat)) (hf : KFit n K) (hn : n ≤ 1000) (t : List Int) (ht : t.length ≤ 1000) (u v : Value) (w : World) (hu : OutAt w u K) (hv : IntAt w v t) :
    Calls Tryz.prog 8 #[u, v] w fun e w' => e = .returned (.int .i64 (cnOu K t : Nat)) ∧ Below w.heap.size w w' := by
  obtain ⟨ao, b, off, cap, hu1, ha, _, hc⟩ := hu
  obtain ⟨a2, p2, e2⟩ := hv.form
  subst hu1 e2
  have hK := hf.few
  have HC : Hid ((∀ k p, K[k]? = some p → OutC w b (off + k * 2) p) ∧ KFit n K ∧ IntAt w (.slice a2 t.length p2) t) := ⟨hc, hf, hv⟩
  clear hc hf hv
  generalize hR : cnOu K t = R
  have HR : Hid (cnOu K t = R) := hR
  clear hR
  have HN : Hid (n ≤ 1000) := hn
  clear hn
  go_enter Tryz.func8, Tryz.ntmps8
  go_wp2_with fail
  go_loopw [5] (fun i wr => ∃ k : Nat, k ≤ K.length ∧ i = .int .i64 k ∧ Hid (cnOu (K.drop k) t = R) ∧ Below w.heap.size w wr) (fun i _ => K.length - (intOf i).toNat)
  case atStart => exact ⟨0, Nat.zero_le _, rfl, HR, Below.refl _ _⟩
  case round =>
    obtain ⟨k, hk, rfl, HK, hb⟩ := hrel
    by_cases hlt : k < K.length
    · obtain ⟨p, hp⟩ := get_of_lt hlt
      obtain rfl := ha (ne_nil hlt)
      have hmem := List.mem_of_getElem? hp
      obtain ⟨u1, c0, c1, hi1⟩ := outC_keeps _ _ _ _ _ hb (HC.out.1 k p hp)
      have hpl := HC.out.2.1.len p hmem
      obtain ⟨a1, p1, e1⟩ := hi1.form
      subst e1
      have HS : Hid (∀ w', Below wr.heap.size wr w' → Calls Tryz.prog 13 #[.slice a1 p.1.length p1, .slice a2 t.length p2] w' fun e w'' => e = .returned (.bool (p.1 == t)) ∧ Below w'.heap.size w' w'') := fun w' hb' => sameK_any p.1 t (by have := HN.out; omega) (by omega) _ _ w' (hi1.keep hb') ((HC.out.2.2.keep hb).keep hb')
      have hkI : (k : Int) < (K.length : Int) := by omega
      cases hs : p.1 == t
      · have HM : Hid (cnOu (K.drop (k + 1)) t = R) := (cnOu_drop_no hp hs).symm.trans HK.out
        rw [hs] at HS
        generalize p.1.length = ln at *
        generalize p.2 = cn at *
        clear hi1 hp hpl hs HK hmem
        go_wp2_with fail
        refine (HS.out _ (Below.refl _ _)).mono ?_
        rintro e w7 ⟨rfl, hb7⟩
        have hb8 := below_more hb hb7
        clear HS c0 c1 hb hb7
        go_wp2_with fail
        go_roundw
        case measure => simp [intOf]; omega
        case rel => exact ⟨k + 1, by omega, by go_num, HM.out, hb8⟩
      · have hcn : R = p.2 := by
          have h1 : p.1 = t := by simpa using hs
          rw [← HR.out, ← h1]
          exact cnOu_at HC.out.2.1.srt hmem
        rw [hs] at HS
        have HCN : Hid (R = p.2) := hcn
        generalize p.1.length = ln at *
        generalize p.2 = cn at *
        clear hi1 hp hpl hs HK hmem hcn HR
        go_wp2_with fail
        refine (HS.out _ (Below.refl _ _)).mono ?_
        rintro e w7 ⟨rfl, hb7⟩
        have hb8 := below_more hb hb7
        replace c1 := keep_cell hb7 c1
        clear HS c0 hb hb7
        go_wp2_with fail
        go_ret
        obtain rfl := HCN.out
        exact ⟨rfl, hb8⟩
    · have hkI : (K.length : Int) ≤ (k : Int) := by omega
      have he : R = 0 := by
        have h1 := HK.out
        rw [drop_nil (by omega)] at h1
        exact h1.symm
      subst he
      clear HK
      go_wp2_with fail
      go_ret
      exact ⟨rfl, hb⟩

end Go.Proofs.YtomijmikkbhgmabGreat

namespace Go.Proofs.YtomijmikkbhgmabGreat
open Go.RowKit

/-- In how many allowed candidates the condition holds, and in how many not. -/
def gdN (n : Nat) (c : List Atm) (L : List (Option (List Int))) : Nat := ((L.filterMap id).filter fun s => metB n c s).length
def bdN (n : Nat) (c : List Atm) (L : List (Option (List Int))) : Nat := ((L.filterMap id).filter fun s => !metB n c s).length
theorem gdN_none (n : Nat) (c : List Atm) (L : List (Option (List Int))) : gdN n c (L ++ [none]) = gdN n c L ∧ bdN n c (L ++ [none]) = bdN n c L := by
  unfold gdN bdN; rw [List.filterMap_append]; simp
theorem gdN_yes {n : Nat} {c : List Atm} {l : List Int} (h : metB n c l = true) (L : List (Option (List Int))) : gdN n c (L ++ [some l]) = gdN n c L + 1 ∧ bdN n c (L ++ [some l]) = bdN n c L := by
  unfold gdN bdN; rw [List.filterMap_append]; simp [h]
theorem gdN_no {n : Nat} {c : List Atm} {l : List Int} (h : metB n c l = false) (L : List (Option (List Int))) : gdN n c (L ++ [some l]) = gdN n c L ∧ bdN n c (L ++ [some l]) = bdN n c L + 1 := by
  unfold gdN bdN; rw [List.filterMap_append]; simp [h]
theorem gdN_le (n : Nat) (c : List Atm) (L : List (Option (List Int))) : gdN n c L ≤ L.length ∧ bdN n c L ≤ L.length := by
  unfold gdN bdN
  exact ⟨Nat.le_trans (List.length_filter_le _ _) (List.length_filterMap_le _ _), Nat.le_trans (List.length_filter_le _ _) (List.length_filterMap_le _ _)⟩

/-- A report. -/
def repV (g b : Nat) (fa : Bool) : Value := .agg #[.int .i64 (if g == 0 then 0 else if b == 0 then 2 else 1), .int .i64 g, .int .i64 b, .bool (if fa then b == 0 else decide (0 < g))]
def noRep : Value := .agg #[.int .i64 0, .int .i64 0, .int .i64 0, .bool false]
def verV (T : List (List Ins)) (c : List Atm) (fa : Bool) (al : Nat → Bool) : Value :=
  if (chk T c).1 == 0 then .tuple #[repV (gdN T.length c (optL al T (evsT T 0) (sizeN (evsT T 0)))) (bdN T.length c (optL al T (evsT T 0) (sizeN (evsT T 0)))) fa, .int .i64 0] else .tuple #[noRep, .int .i64 (chk T c).1]

/-- A report in a block of its own. -/
structure RepC (w : World) (R : Nat) (v : Int) (g b : Nat) (h : Bool) : Prop where
  c0 : w.cell? ⟨R, 0, none⟩ = some (.int .i64 v)
  c1 : w.cell? ⟨R, 1, none⟩ = some (.int .i64 g)
  c2 : w.cell? ⟨R, 2, none⟩ = some (.int .i64 b)
  c3 : w.cell? ⟨R, 3, none⟩ = some (.bool h)
  f0 : w.frozen? ⟨R, 0, none⟩ = false
  f1 : w.frozen? ⟨R, 1, none⟩ = false
  f2 : w.frozen? ⟨R, 2, none⟩ = false
  f3 : w.frozen? ⟨R, 3, none⟩ = false
theorem RepC.lt {w : World} {R : Nat} {v : Int} {g b : Nat} {h : Bool} (k : RepC w R v g b h) : R < w.heap.size := World.block_lt_of_cell? w _ k.c0
theorem RepC.keep {w w' : World} {R : Nat} {v : Int} {g b : Nat} {h : Bool} (k : RepC w R v g b h) (hb : Below w.heap.size w w') : RepC w' R v g b h :=
  ⟨keep_cell hb k.c0, keep_cell hb k.c1, keep_cell hb k.c2, keep_cell hb k.c3, (hb.frozen (p := ⟨R, 0, none⟩) k.lt).trans k.f0, (hb.frozen (p := ⟨R, 1, none⟩) k.lt).trans k.f1, (hb.frozen (p := ⟨R, 2, none⟩) k.lt).trans k.f2, (hb.frozen (p := ⟨R, 3, none⟩) k.lt).trans k.f3⟩

end Go.Proofs.YtomijmikkbhgmabGreat

namespace Go.Proofs.YtomijmikkbhgmabGreat
open Go.RowKit

set_option maxRecDepth 20000 in
set_option maxHeartbeats 1000000 in
theorem metK_any (T : List (List Ins)) (hT : T.length ≤ 4) (fa : Bool) (c : List Atm) (hc : AtmsOk T.length c) (vt vc : Value) (s : List Int) (hs : s.length = 3 * T.length + 3) (v : Value) (w : World) (h : TestAt w (.agg #[vt, .bool fa, vc]) T fa c vt vc) (hv : IntAt w v s) :
    Calls Tryz.prog 42 #[.agg #[vt, .bool fa, vc], v] w fun e w' => e = .returned (.bool (metB T.length c s)) ∧ Below w.heap.size w w' := by
  obtain ⟨ht0, aot, bt, offt, capt, htv, _⟩ := h.ht.opened
  obtain ⟨hc0, aoc, bc, offc, capc, hvc, hac, _, hcc⟩ := h.hc
  obtain ⟨ao, b, off, cap, hv1, ha, _, hcs⟩ := hv
  subst htv hvc hv1
  have HC : Hid (∀ k x, c[k]? = some x → AtmC w bc (offc + k * 3) x) := hcc
  have HS : Hid (∀ k x, s[k]? = some x → w.cell? ⟨b, off + k, none⟩ = some (.int .i64 x)) := fun k x hx => by
    have := hcs k x hx
    unfold IntC at this
    rw [Nat.mul_one] at this; exact this
  have HOK : Hid (AtmsOk T.length c ∧ s.length = 3 * T.length + 3) := ⟨hc, hs⟩
  obtain rfl := ha (by intro h; rw [h] at hs; simp at hs)
  have HB : Hid (metB T.length c s = (c.drop 0).all fun a => s.getD (idxA T.length a) 0 == a.val) := rfl
  generalize metB T.length c s = B at HB ⊢
  have hsl : s.length ≤ 100 := by omega
  clear hcc hcs h hc hs ha
  go_enter Tryz.func42, Tryz.ntmps42
  go_wp2_with fail
  have hba := below_alloc w (.cells #[.slice aot T.length capt, .bool fa, .slice aoc c.length capc] 25)
  have HBX : Hid ((w.alloc (.cells #[.slice aot T.length capt, .bool fa, .slice aoc c.length capc] 25)).cell? ⟨w.heap.size, 0, none⟩ = some (.slice aot T.length capt) ∧ (w.alloc (.cells #[.slice aot T.length capt, .bool fa, .slice aoc c.length capc] 25)).cell? ⟨w.heap.size, 2, none⟩ = some (.slice aoc c.length capc)) := ⟨by simp, by simp⟩
  generalize w.alloc (.cells #[.slice aot T.length capt, .bool fa, .slice aoc c.length capc] 25) = W at hba HBX ⊢
  go_loopw [5] (fun i wr => ∃ k : Nat, k ≤ c.length ∧ i = .int .i64 k ∧ Hid (B = (c.drop k).all fun a => s.getD (idxA T.length a) 0 == a.val) ∧ Below W.heap.size W wr) (fun i _ => c.length - (intOf i).toNat)
  case atStart => exact ⟨0, Nat.zero_le _, rfl, HB.out, Below.refl _ _⟩
  case round =>
    clear HB
    obtain ⟨k, hk, rfl, hn, hb⟩ := hrel
    have t0 := keep_cell hb HBX.out.1
    have t2 := keep_cell hb HBX.out.2
    have hbw := below_more hba hb
    have hsz := hb.size
    by_cases hlt : k < c.length
    · obtain ⟨x, hx⟩ := get_of_lt hlt
      obtain rfl := hac (ne_nil hlt)
      obtain ⟨c0, c1, c2⟩ := (atmC_keeps _ _ _ _ _ hbw (HC.out k x hx))
      have m0 := World.block_lt_of_cell? _ _ c0
      have m1 := World.block_lt_of_cell? _ _ t0
      simp only at m0 m1
      have hkI : (k : Int) < (c.length : Int) := by omega
      have hrg := atm_range (HOK.out.1 x (List.mem_of_getElem? hx))
      have hidx : idxA T.length x < s.length := by
        rw [HOK.out.2]
        unfold idxA
        rcases hrg with ⟨h1, h2, h3⟩ | ⟨h1, h2, h3, h4⟩
        · rw [h1]; simp; omega
        · have : (x.thread == -1) = false := by simp; omega
          rw [this]; simp; omega
      obtain ⟨y, hy⟩ := get_of_lt hidx
      have HN : Hid (B = ((y == x.val) && (c.drop (k + 1)).all fun a => s.getD (idxA T.length a) 0 == a.val)) := hn.out.trans (by rw [drop_cons hx, List.all_cons, List.getD, hy]; rfl)
      have hix : Hid ((idxA T.length x : Int) = if x.thread == -1 then 3 * (T.length : Int) + x.at' else 3 * x.thread + x.at') := by
        show _ = _
        unfold idxA
        rcases hrg with ⟨h1, h2, h3⟩ | ⟨h1, h2, h3, h4⟩
        · rw [h1]; simp; omega
        · have : (x.thread == -1) = false := by simp; omega
          rw [this]; simp; omega
      have s0 := keep_cell hbw (HS.out _ y hy)
      have ms0 := World.block_lt_of_cell? _ _ s0
      simp only at ms0
      generalize idxA T.length x = ix at *
      have hixI : (ix : Int) < (s.length : Int) := by omega
      have hixN : decide (s.length ≤ ix) = false := by simp; omega
      clear hn hx hy
      cases hth : x.thread == -1
      · have e1 : 3 * x.thread + x.at' = (ix : Int) := by rw [hix.out, hth]; rfl
        rcases hrg with ⟨h1, h2, h3⟩ | ⟨h1, h2, h3, h4⟩
        · rw [h1] at hth; simp at hth
        cases hyv : y == x.val
        · have hyv' : (y != x.val) = true := by simp [bne, hyv]
          have HM : Hid (B = false) := HN.out.trans (by rw [hyv]; rfl)
          go_wp2_with fail
          go_quiet (fail)
          go_wp2_with fail
          go_ret
          exact ⟨by rw [HM.out]; rfl, below_more hba (below_drN (hb.alloc hb.size _) _)⟩
        · have hyv' : (y != x.val) = false := by simp [bne, hyv]
          have HM : Hid (B = (c.drop (k + 1)).all fun a => s.getD (idxA T.length a) 0 == a.val) := HN.out.trans (by rw [hyv, Bool.true_and])
          go_wp2_with fail
          go_quiet (fail)
          go_wp2_with fail
          go_roundw
          case measure => simp [intOf]; omega
          case rel => exact ⟨k + 1, by omega, by go_num, HM.out, below_drN (hb.alloc hb.size _) _⟩
      · have e1 : 3 * (T.length : Int) + x.at' = (ix : Int) := by rw [hix.out, hth]; rfl
        have hth1 : x.thread = -1 := by simpa using hth
        rcases hrg with ⟨h1, h2, h3⟩ | ⟨h1, h2, h3, h4⟩
        case inr => omega
        cases hyv : y == x.val
        · have hyv' : (y != x.val) = true := by simp [bne, hyv]
          have HM : Hid (B = false) := HN.out.trans (by rw [hyv]; rfl)
          go_wp2_with fail
          go_quiet (fail)
          go_wp2_with fail
          go_ret
          exact ⟨by rw [HM.out]; rfl, below_more hba (below_drN (hb.alloc hb.size _) _)⟩
        · have hyv' : (y != x.val) = false := by simp [bne, hyv]
          have HM : Hid (B = (c.drop (k + 1)).all fun a => s.getD (idxA T.length a) 0 == a.val) := HN.out.trans (by rw [hyv, Bool.true_and])
          go_wp2_with fail
          go_quiet (fail)
          go_wp2_with fail
          go_roundw
          case measure => simp [intOf]; omega
          case rel => exact ⟨k + 1, by omega, by go_num, HM.out, below_drN (hb.alloc hb.size _) _⟩
    · have HM : Hid (B = true) := hn.out.trans (by rw [drop_nil hlt]; rfl)
      have hkI : (c.length : Int) ≤ (k : Int) := by omega
      clear hn
      go_wp2_with fail
      go_ret
      exact ⟨by rw [HM.out]; rfl, hbw⟩

set_option maxRecDepth 20000 in
set_option maxHeartbeats 4000000 in
theorem told_core (g b : Nat) (_hg : g ≤ 2000) (_hb : b ≤ 2000) (fa B0 G0 : Bool) (kb : ((b : Int) == 0) = B0) (kg : ((g : Int) == 0) = G0) (kg2 : decide (0 < (g : Int)) = !G0) (kg3 : decide (0 < g) = !G0) (vt vc : Value) (v : Int) (h : Bool) (hv : v = if G0 then 0 else if B0 then 2 else 1) (hh : h = if fa then B0 else !G0) (R : Nat) (w : World) (c0 : w.cell? ⟨R, 0, none⟩ = some (.int .i64 g)) (c1 : w.cell? ⟨R, 1, none⟩ = some (.int .i64 b)) :
    Calls Tryz.prog 10 #[.agg #[vt, .bool fa, vc], .agg #[.int .i64 v, .int .i64 g, .int .i64 b, .bool h], .pointer (some ⟨R, 0, none⟩)] w fun e w' => e = .returned (.bool true) ∧ Below w.heap.size w w' := by
  have hba := below_two w (.cells #[vt, .bool fa, vc] 25) (.cells #[.int .i64 v, .int .i64 g, .int .i64 b, .bool h] 42)
  have d0 := keep_cell hba c0
  have d1 := keep_cell hba c1
  have t1 : ((w.alloc (.cells #[vt, .bool fa, vc] 25)).alloc (.cells #[.int .i64 v, .int .i64 g, .int .i64 b, .bool h] 42)).cell? ⟨w.heap.size, 1, none⟩ = some (.bool fa) := by simp
  have r0 : ((w.alloc (.cells #[vt, .bool fa, vc] 25)).alloc (.cells #[.int .i64 v, .int .i64 g, .int .i64 b, .bool h] 42)).cell? ⟨w.heap.size + 1, 0, none⟩ = some (.int .i64 v) := by simp
  have r1 : ((w.alloc (.cells #[vt, .bool fa, vc] 25)).alloc (.cells #[.int .i64 v, .int .i64 g, .int .i64 b, .bool h] 42)).cell? ⟨w.heap.size + 1, 1, none⟩ = some (.int .i64 g) := by simp
  have r2 : ((w.alloc (.cells #[vt, .bool fa, vc] 25)).alloc (.cells #[.int .i64 v, .int .i64 g, .int .i64 b, .bool h] 42)).cell? ⟨w.heap.size + 1, 2, none⟩ = some (.int .i64 b) := by simp
  have r3 : ((w.alloc (.cells #[vt, .bool fa, vc] 25)).alloc (.cells #[.int .i64 v, .int .i64 g, .int .i64 b, .bool h] 42)).cell? ⟨w.heap.size + 1, 3, none⟩ = some (.bool h) := by simp
  have k1 : ((g : Int) == (g : Int)) = true := by simp
  have k2 : ((b : Int) == (b : Int)) = true := by simp
  have hR := World.block_lt_of_cell? _ _ c0
  simp only at hR
  clear c0 c1
  cases B0 <;> cases G0 <;> cases fa <;>
  ( simp only [Bool.false_eq_true, ↓reduceIte, Bool.not_true, Bool.not_false] at hv hh kg2 kg3
    subst hv hh
    go_enter Tryz.func10, Tryz.ntmps10
    go_wp2_with fail
    generalize (w.alloc (.cells #[vt, .bool _, vc] 25)).alloc (.cells #[.int .i64 _, .int .i64 g, .int .i64 b, .bool _] 42) = W at *
    have g0 := grown_cell d0
    have g1 := grown_cell d1
    have g2 := grown_cell r0
    have g3 := grown_cell r1
    have g4 := grown_cell r2
    have g5 := grown_cell r3
    have hnw := grw_some W
    refine wp_region_grown (by kernel_rfl) (by kernel_rfl) ?_
    repeat (go_big_quiet_step (fail))
    refine wpQuiet_nil ?_
    intro w7 hw7
    obtain ⟨⟨w7', hb7⟩, rfl⟩ := hw7
    clear g0 g1 g2 g3 g4 g5 hnw
    go_wp2_with fail
    go_ret
    exact ⟨rfl, below_more hba hb7⟩)

theorem told_any (g b : Nat) (hg : g ≤ 2000) (hb : b ≤ 2000) (fa : Bool) (vt vc : Value) (R : Nat) (w : World) (c0 : w.cell? ⟨R, 0, none⟩ = some (.int .i64 g)) (c1 : w.cell? ⟨R, 1, none⟩ = some (.int .i64 b)) :
    Calls Tryz.prog 10 #[.agg #[vt, .bool fa, vc], repV g b fa, .pointer (some ⟨R, 0, none⟩)] w fun e w' => e = .returned (.bool true) ∧ Below w.heap.size w w' := by
  have e1 : decide (0 < g) = !(g == 0) := by rw [Bool.eq_iff_iff]; simp; omega
  exact told_core g b hg hb fa (b == 0) (g == 0) (by rw [Bool.eq_iff_iff]; simp) (by rw [Bool.eq_iff_iff]; simp) (by rw [← e1, decide_eq_decide]; omega) e1 vt vc _ _ rfl (by rw [e1]) R w c0 c1

end Go.Proofs.YtomijmikkbhgmabGreat
