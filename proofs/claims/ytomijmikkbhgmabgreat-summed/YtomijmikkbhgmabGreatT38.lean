import Derived.Test.YtomijmikkbhgmabGreatT37
namespace Go.Proofs.YtomijmikkbhgmabGreat
open Go.RowKit

theorem Tryz.infoOutc : (Tryz.prog.info? 71).map (fun i => (i.zero, i.size, i.bytes)) = some (some (.agg #[.slice none 0 0, .int .i64 0]), 2, 32) := by kernel_rfl

def OutC (w : World) (b off : Nat) (p : List Int × Nat) : Prop := ∃ u, w.cell? ⟨b, off, none⟩ = some u ∧ w.cell? ⟨b, off + 1, none⟩ = some (.int .i64 p.2) ∧ IntAt w u p.1
def OutAt (w : World) (v : Value) (P : List (List Int × Nat)) : Prop := ∃ ao b off cap, SlAt w 2 OutC v P ao b off cap
theorem outC_keeps : Keeps OutC := fun _ _ _ _ _ hb ⟨u, h1, h2, h3⟩ => ⟨u, keep_cell hb h1, keep_cell hb h2, h3.keep hb⟩
theorem OutAt.keep {w w' : World} {v : Value} {L : List (List Int × Nat)} (h : OutAt w v L) (hb : Below w.heap.size w w') : OutAt w' v L := by
  obtain ⟨ao, b, off, cap, h⟩ := h
  exact ⟨ao, b, off, cap, h.keep outC_keeps hb⟩

def outV (q : Value × (List Int × Nat)) : List Value := [q.1, .int .i64 q.2.2]
theorem outV_len (q : Value × (List Int × Nat)) : (outV q).length = 2 := rfl

/-- Outcomes in a row of the call's own; their states lie below. -/
structure OutOwn (w0 wr : World) (V : Value) (K : List (Value × (List Int × Nat))) : Prop where
  own : wr.ownsRow w0.heap.size 71 2 V K.length (K.flatMap outV)
  st : ∀ q ∈ K, IntAt w0 q.1 q.2.1

theorem OutOwn.nil (w0 wr : World) : OutOwn w0 wr (.slice none 0 0) [] := ⟨World.ownsRow_nil _ _ _ _, fun q hq => by cases hq⟩

theorem OutOwn.read {w0 wr : World} {V : Value} {K : List (Value × (List Int × Nat))} (h : OutOwn w0 wr V K) (hb : Below w0.heap.size w0 wr) : OutAt wr V (K.map (·.2)) := by
  rcases h.own.2 with ⟨hv, hn⟩ | ⟨g, cap, cur, hv, hg, hh, _⟩
  · have h0 : K = [] := List.eq_nil_of_length_eq_zero hn
    subst h0
    exact ⟨none, 0, 0, 0, hv, fun h => absurd rfl h, fun _ => ⟨rfl, rfl⟩, fun k x h => by simp at h⟩
  · refine ⟨_, g, 0, cap, by rw [hv, List.length_map], fun _ => rfl, fun h => by simp at h, fun k x hk => ?_⟩
    rw [List.getElem?_map] at hk
    cases hq : K[k]? with
    | none => rw [hq] at hk; simp at hk
    | some q =>
      rw [hq] at hk
      have hx : q.2 = x := by simpa using hk
      subst hx
      have c1 := h.own.cells (g := g) (by rw [hv]; rfl) (k * 2 + 0) q.1 (by rw [flat_get outV 2 outV_len K k 0 q hq (by omega)]; rfl)
      have c2 := h.own.cells (g := g) (by rw [hv]; rfl) (k * 2 + 1) (.int .i64 q.2.2) (by rw [flat_get outV 2 outV_len K k 1 q hq (by omega)]; rfl)
      rw [Addr.add_lit] at c1 c2
      exact ⟨q.1, by rw [Nat.add_zero] at c1; exact c1, by rw [Nat.add_assoc]; exact c2, (h.st q (List.mem_of_getElem? hq)).keep hb⟩

theorem OutOwn.snoc {w0 wr w2 : World} {V V' : Value} {K : List (Value × (List Int × Nat))} (h : OutOwn w0 wr V K) {u : Value} {s : List Int} {n : Nat} (hu : IntAt w0 u s) (hown : w2.ownsRow w0.heap.size 71 2 V' (K.length + 1) (K.flatMap outV ++ [u, .int .i64 n])) : OutOwn w0 w2 V' (K ++ [(u, (s, n))]) := by
  refine ⟨by rw [List.flatMap_append, List.length_append]; exact hown, fun q hq => ?_⟩
  rcases List.mem_append.1 hq with hq | hq
  · exact h.st q hq
  · have : q = (u, (s, n)) := by simpa using hq
    rw [this]; exact hu

def lenV : Value → Nat
  | .slice _ n _ => n
  | _ => 0

/-- All states of allowed candidates. -/
def stsL (al : Nat → Bool) (T : List (List Ins)) (E : List Evt) (N : Nat) : List (List Int) := (optL al T E N).filterMap id

/-- How many of some states are one. -/
def cntO2 (L : List (Option (List Int))) (v : List Int) : Nat := cnSt (L.filterMap id) v
theorem cntO2_none (L : List (Option (List Int))) (v : List Int) : cntO2 (L ++ [none]) v = cntO2 L v := by unfold cntO2; rw [List.filterMap_append]; simp
theorem cnSt_snoc (L : List (List Int)) (s v : List Int) : cnSt (L ++ [s]) v = cnSt L v + (if s == v then 1 else 0) := by
  induction L with
  | nil => simp [cnSt]
  | cons a L ih => rw [List.cons_append, cnSt, cnSt, ih]; omega
theorem cntO2_some (L : List (Option (List Int))) (l v : List Int) : cntO2 (L ++ [some l]) v = cntO2 L v + (if l == v then 1 else 0) := by
  unfold cntO2; rw [List.filterMap_append]; exact cnSt_snoc _ _ _
theorem cnSt_le (L : List (List Int)) (v : List Int) : cnSt L v ≤ L.length := by
  induction L with
  | nil => exact Nat.le_refl _
  | cons a L ih => rw [cnSt, List.length_cons]; split <;> omega
theorem cntO2_le (L : List (Option (List Int))) (v : List Int) : cntO2 L v ≤ L.length := Nat.le_trans (cnSt_le _ _) (List.length_filterMap_le _ _)

/-- What Outcomes tells. -/
def OOut (T : List (List Ins)) (c : List Atm) (al : Nat → Bool) (w : World) (u : Value) (er : Int) : Prop :=
  ((chk T c).1 ≠ 0 ∧ er = (chk T c).1 ∧ u = .slice none 0 0) ∨ ((chk T c).1 = 0 ∧ er = 0 ∧ OutAt w u (outK (stsL al T (evsT T 0) (sizeN (evsT T 0)))))

theorem optL_ok {T : List (List Ins)} {c : List Atm} (hz : ((chk T c).1 == 0) = true) (al : Nat → Bool) (N : Nat) : ∀ o ∈ optL al T (evsT T 0) N, StOk (3 * T.length + 3) o := by
  intro o ho l hl
  unfold optL at ho
  obtain ⟨n, _, hn⟩ := List.mem_map.1 ho
  rw [hl] at hn
  split at hn
  · cases hn
    refine ⟨staL_len _ _ _ _, fun a ha => ?_⟩
    have := staL_small (chk_vals hz) T.length _ _ a ha
    omega
  · cases hn

end Go.Proofs.YtomijmikkbhgmabGreat

namespace Go.Proofs.YtomijmikkbhgmabGreat
open Go.RowKit

set_option maxRecDepth 20000 in
set_option maxHeartbeats 1000000 in
theorem isLess_any (l m : List Int) (hlm : m.length = l.length) (hl : l.length ≤ 1000) (u v : Value) (w : World) (hu : IntAt w u l) (hv : IntAt w v m) :
    Calls Tryz.prog 49 #[u, v] w fun e w' => e = .returned (.bool (ltL l m)) ∧ Below w.heap.size w w' := by
  obtain ⟨ao, b, off, cap, hu1, ha, _, hc⟩ := hu
  obtain ⟨ao2, b2, off2, cap2, hv1, ha2, _, hc2⟩ := hv
  subst hu1 hv1
  rw [hlm]
  have HC : Hid (∀ k x, l[k]? = some x → w.cell? ⟨b, off + k, none⟩ = some (.int .i64 x)) := fun k x hx => by
    have := hc k x hx
    unfold IntC at this
    rw [Nat.mul_one] at this; exact this
  have HC2 : Hid (∀ k x, m[k]? = some x → w.cell? ⟨b2, off2 + k, none⟩ = some (.int .i64 x)) := fun k x hx => by
    have := hc2 k x hx
    unfold IntC at this
    rw [Nat.mul_one] at this; exact this
  have HSM : Hid (m.length = l.length) := hlm
  have HB : Hid (ltL l m = ltL (l.drop 0) (m.drop 0)) := rfl
  generalize ltL l m = B at HB ⊢
  clear hc hc2 hlm
  go_enter Tryz.func49, Tryz.ntmps49
  go_wp2_with fail
  go_loopw [5] (fun i wr => ∃ k nn : Nat, k ≤ l.length ∧ i = .int .i64 k ∧ Hid (B = ltL (l.drop k) (m.drop k)) ∧ wr = w.drewN nn) (fun i _ => l.length - (intOf i).toNat)
  case atStart => exact ⟨0, 0, Nat.zero_le _, rfl, HB.out, rfl⟩
  case round =>
    clear HB
    obtain ⟨k, nn, hk, rfl, hn, hwr⟩ := hrel
    subst hwr
    by_cases hlt : k < l.length
    · obtain ⟨x, hx⟩ := get_of_lt hlt
      obtain ⟨y, hy⟩ := get_of_lt (l := m) (k := k) (by have := HSM.out; omega)
      obtain rfl := ha (ne_nil hlt)
      obtain rfl := ha2 (ne_nil (k := k) (by have := HSM.out; omega))
      have c0 := HC.out k x hx
      have d0 := HC2.out k y hy
      have hkI : (k : Int) < (l.length : Int) := by omega
      have HN : Hid (B = ltL (x :: l.drop (k + 1)) (y :: m.drop (k + 1))) := hn.out.trans (by rw [drop_cons hx, drop_cons hy])
      clear hn hx hy
      cases hxy : x == y
      · have hxy' : (x != y) = true := by simp [bne, hxy]
        have HM : Hid (B = decide (x < y)) := HN.out.trans (ltL_ne hxy _ _)
        go_wp2_with fail
        go_quiet (fail)
        go_wp2_with fail
        go_quiet (fail)
        go_wp2_with fail
        go_ret
        exact ⟨by rw [HM.out]; rfl, below_drN (below_drN (below_drN (Below.refl _ _) _) _) _⟩
      · have hxy' : (x != y) = false := by simp [bne, hxy]
        have HM : Hid (B = ltL (l.drop (k + 1)) (m.drop (k + 1))) := HN.out.trans (ltL_eq hxy _ _)
        go_wp2_with fail
        go_quiet (fail)
        go_wp2_with fail
        go_roundw
        case measure => simp [intOf]; omega
        case rel => exact ⟨k + 1, _, by omega, by go_num, HM.out, rfl⟩
    · have HM : Hid (B = false) := hn.out.trans (by rw [drop_nil hlt]; rfl)
      have hkI : (l.length : Int) ≤ (k : Int) := by omega
      clear hn
      go_wp2_with fail
      go_ret
      exact ⟨by rw [HM.out]; rfl, below_drN (Below.refl _ _) _⟩

/-- How many outcomes go ahead of a state. -/
def posK : List (List Int × Nat) → List Int → Nat
  | [], _ => 0
  | p :: K, s => if ltL p.1 s then posK K s + 1 else 0
theorem posK_le (K : List (List Int × Nat)) (s : List Int) : posK K s ≤ K.length := by
  induction K with
  | nil => exact Nat.le_refl _
  | cons p K ih => rw [posK, List.length_cons]; split <;> omega
theorem posK_low {K : List (List Int × Nat)} {s : List Int} {k : Nat} {p : List Int × Nat} (h : k < posK K s) (hp : K[k]? = some p) : ltL p.1 s = true := by
  induction K generalizing k with
  | nil => simp at hp
  | cons q K ih =>
    rw [posK] at h
    cases hq : ltL q.1 s
    · rw [hq] at h; simp at h
    · rw [hq, if_pos rfl] at h
      cases k with
      | zero => simp at hp; rw [← hp]; exact hq
      | succ k => rw [List.getElem?_cons_succ] at hp; exact ih (by omega) hp
theorem posK_high {K : List (List Int × Nat)} (hs : SrtK K) {s : List Int} {k : Nat} {p : List Int × Nat} (h : posK K s ≤ k) (hp : K[k]? = some p) : ltL p.1 s = false := by
  induction K generalizing k with
  | nil => simp at hp
  | cons q K ih =>
    rw [posK] at h
    cases hq : ltL q.1 s
    · cases hps : ltL p.1 s
      · rfl
      · cases k with
        | zero => simp at hp; rw [hp] at hq; rw [hq] at hps; cases hps
        | succ k =>
          rw [List.getElem?_cons_succ] at hp
          have := ltL_trans (hs.1 p (List.mem_of_getElem? hp)) hps
          rw [hq] at this; cases this
    · rw [hq, if_pos rfl] at h
      cases k with
      | zero => omega
      | succ k => rw [List.getElem?_cons_succ] at hp; exact ih hs.2 (by omega) hp

set_option maxRecDepth 20000 in
set_option maxHeartbeats 2000000 in
theorem placeFor_any (n : Nat) (hn : n ≤ 1000) (K : List (List Int × Nat)) (hK : K.length ≤ 2000) (hs : SrtK K) (hl : LenK n K) (s : List Int) (hsl : s.length = n) (u v : Value) (w : World) (hu : OutAt w u K) (hv : IntAt w v s) :
    Calls Tryz.prog 48 #[u, v] w fun e w' => e = .returned (.int .i64 (posK K s : Nat)) ∧ Below w.heap.size w w' := by
  have HLT : Hid (∀ (l : List Int) (vl : Value) (w' : World), l.length = n → Below w.heap.size w w' → IntAt w' vl l → Calls Tryz.prog 49 #[vl, v] w' fun e w'' => e = .returned (.bool (ltL l s)) ∧ Below w'.heap.size w' w'') := fun l vl w' hll hb hvl => isLess_any l s (by omega) (by omega) vl v w' hvl (hv.keep hb)
  obtain ⟨ao, b, off, cap, hu1, ha, _, hc⟩ := hu
  obtain ⟨aov, capv, hvf⟩ := hv.form
  subst hu1 hvf
  have HC : Hid (∀ k p, K[k]? = some p → OutC w b (off + k * 2) p ∧ p.1.length = n) := fun k p hp => ⟨hc k p hp, hl p (List.mem_of_getElem? hp)⟩
  have HLO : Hid (∀ k p, k < posK K s → K[k]? = some p → ltL p.1 s = true) := fun k p h1 h2 => posK_low h1 h2
  have HHI : Hid (∀ k p, posK K s ≤ k → K[k]? = some p → ltL p.1 s = false) := fun k p h1 h2 => posK_high hs h1 h2
  have hP := posK_le K s
  generalize posK K s = P at HLO HHI hP ⊢
  clear hc hv hl hs hsl
  go_enter Tryz.func48, Tryz.ntmps48
  go_wp2_with fail
  go_loopw [5, 6] (fun x y wr => ∃ lo hi : Nat, lo ≤ P ∧ P ≤ hi ∧ hi ≤ K.length ∧ x = .int .i64 lo ∧ y = .int .i64 hi ∧ Below w.heap.size w wr) (fun x y _ => (intOf y).toNat - (intOf x).toNat)
  case atStart => exact ⟨0, K.length, Nat.zero_le _, hP, Nat.le_refl _, rfl, rfl, Below.refl _ _⟩
  case round =>
    obtain ⟨lo, hi, h1, h2, h3, rfl, rfl, hb⟩ := hrel
    by_cases hlt : lo < hi
    · have hltI : (lo : Int) < (hi : Int) := by omega
      obtain ⟨p, hp⟩ := get_of_lt (l := K) (k := lo + (hi - lo) / 2) (by omega)
      obtain rfl := ha (ne_nil (k := lo) (by omega))
      obtain ⟨⟨uo, c0, c1, huo⟩, hpl⟩ := HC.out _ p hp
      replace c0 := keep_cell hb c0
      obtain ⟨aoo, capo, hfo⟩ := huo.form
      subst hfo
      have HL1 := HLT.out p.1 _ wr hpl hb (huo.keep hb)
      have HPL : Hid (ltL p.1 s = true → lo + (hi - lo) / 2 < P) := fun h => Nat.lt_of_not_le fun hle => by have := HHI.out _ p hle hp; rw [h] at this; cases this
      have HPH : Hid (ltL p.1 s = false → P ≤ lo + (hi - lo) / 2) := fun h => Nat.le_of_not_lt fun hle => by have := HLO.out _ p hle hp; rw [h] at this; cases this
      have e1 : (hi : Int) - (lo : Int) = ((hi - lo : Nat) : Int) := by omega
      have e2 : IntKind.i64.wrap ((hi - lo : Nat) : Int) = ((hi - lo : Nat) : Int) := by rw [IntKind.wrap_i64]; omega
      have e3 : ((hi - lo : Nat) : Int) / 2 = (((hi - lo) / 2 : Nat) : Int) := by omega
      have e4 : IntKind.i64.wrap (((hi - lo) / 2 : Nat) : Int) = (((hi - lo) / 2 : Nat) : Int) := by rw [IntKind.wrap_i64]; omega
      have e5 : (lo : Int) + (((hi - lo) / 2 : Nat) : Int) = ((lo + (hi - lo) / 2 : Nat) : Int) := by omega
      have e6 : IntKind.i64.wrap ((lo + (hi - lo) / 2 : Nat) : Int) = ((lo + (hi - lo) / 2 : Nat) : Int) := by rw [IntKind.wrap_i64]; omega
      have hmI : ((lo + (hi - lo) / 2 : Nat) : Int) < (K.length : Int) := by omega
      generalize ltL p.1 s = lb at HL1 HPL HPH
      have hmh : lo + (hi - lo) / 2 < hi := by omega
      generalize hmid : lo + (hi - lo) / 2 = mid at *
      have hlm : lo ≤ mid := by omega
      generalize (hi - lo) / 2 = hf at *
      generalize hi - lo = df at *
      clear hp huo hpl hmid
      go_wp2_with fail
      refine HL1.mono ?_
      rintro e w6 ⟨rfl, hb6⟩
      have hb7 := below_more hb hb6
      clear HL1 c0 c1
      cases lb
      · have hm := HPH.out rfl
        go_wp2_with fail
        go_roundw
        case measure => simp [intOf]; omega
        case rel => exact ⟨lo, mid, h1, hm, by omega, rfl, rfl, hb7⟩
      · have hm := HPL.out rfl
        go_wp2_with fail
        go_roundw
        case measure => simp [intOf]; omega
        case rel => exact ⟨mid + 1, hi, by omega, h2, h3, by go_num, rfl, hb7⟩
    · have hltI : (hi : Int) ≤ (lo : Int) := by omega
      have hlp : lo = P := by omega
      go_wp2_with fail
      go_ret
      exact ⟨by rw [hlp]; rfl, hb⟩

end Go.Proofs.YtomijmikkbhgmabGreat
