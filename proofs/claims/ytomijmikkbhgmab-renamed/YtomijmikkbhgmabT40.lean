import Derived.Test.YtomijmikkbhgmabT39
import Derived.Test.YtomijmikkbhgmabLt
import Derived.Deep.CutRange
import Derived.Deep.RegionWith
import Derived.Test.YtomijmikkbhgmabT30
import Derived.KernelRfl
namespace Go.Proofs.Ytomijmikkbhgmab
open Go.RowKit

abbrev outT (al : Nat → Bool) (T : List (List Ins)) : List (List Int × Nat) := outK (stsL al T (evsT T 0) (sizeN (evsT T 0)))

structure KFit (n : Nat) (K : List (List Int × Nat)) : Prop where
  few : K.length ≤ 2000
  len : ∀ p ∈ K, p.1.length = n
  srt : SrtK K
  pos : ∀ p ∈ K, 1 ≤ p.2
  ne : K ≠ []

theorem outT_fit {T : List (List Ins)} {c : List Atm} {al : Nat → Bool} (hal : Als T (evsT T 0) al) (h1 : (chk T c).1 = 0) : KFit (3 * T.length + 3) (outT al T) := by
  have hz : ((chk T c).1 == 0) = true := by simpa using h1
  obtain ⟨s1, s2, s3, s4⟩ := outK_spec (n := 3 * T.length + 3) (L := stsL al T (evsT T 0) (sizeN (evsT T 0))) (fun s hs => by
    unfold stsL at hs
    rw [casN_states] at hs
    obtain ⟨n, _, rfl⟩ := List.mem_map.1 hs
    exact stX_len _ _ _)
  refine ⟨?_, s2, s1, s3, ?_⟩
  · have e1 := outK_len (stsL al T (evsT T 0) (sizeN (evsT T 0)))
    have e2 := List.length_filterMap_le id (optL al T (evsT T 0) (sizeN (evsT T 0)))
    have e3 := optL_len al T (evsT T 0) (sizeN (evsT T 0))
    have e4 := chk_many_no hz
    unfold stsL at e1
    unfold outT stsL
    omega
  · obtain ⟨n, hn, ha⟩ := some_allowed hz
    have hm : stX T (evsT T 0) (exN (evsT T 0) n) ∈ stsL al T (evsT T 0) (sizeN (evsT T 0)) := by
      unfold stsL
      rw [casN_states]
      refine List.mem_map.2 ⟨n, ?_, rfl⟩
      unfold casN
      exact List.mem_filter.2 ⟨List.mem_range.2 hn, (hal n hn).2 ha⟩
    have h2 := cnSt_pos.2 hm
    rw [← s4] at h2
    obtain ⟨p, hp, _⟩ := cnOu_pos h2
    intro h0
    unfold outT at h0
    rw [h0] at hp
    cases hp

/-- What litmuskeep's outcomes hands back, with true. -/
def KOut (T : List (List Ins)) (c : List Atm) (al : Nat → Bool) (w : World) (u : Value) : Prop :=
  ((chk T c).1 ≠ 0 ∧ u = .slice none 0 0) ∨ ((chk T c).1 = 0 ∧ OutAt w u (outT al T))

theorem OutAt.form2 {w : World} {v : Value} {K : List (List Int × Nat)} (h : OutAt w v K) (hne : K ≠ []) : ∃ r cap, v = .slice (some r) K.length cap := by
  obtain ⟨ao, b, off, cap, hu1, ha, _, hc⟩ := h
  obtain rfl := ha hne
  exact ⟨_, _, hu1⟩

set_option maxRecDepth 20000 in
set_option maxHeartbeats 2000000 in
theorem outcomesK_any (T : List (List Ins)) (fa : Bool) (c : List Atm) (al : Nat → Bool) (hal : Als T (evsT T 0) al) (vt vc : Value) (w : World) (h : TestAt w (.agg #[vt, .bool fa, vc]) T fa c vt vc) :
    Calls Try.prog 13 #[.agg #[vt, .bool fa, vc]] w fun e w' => ∃ u, e = .returned (.tuple #[u, .bool true]) ∧ KOut T c al w' u ∧ Below w.heap.size w w' := by
  have HC1 : Hid (∀ w', Below w.heap.size w w' → Calls Try.prog 27 #[.agg #[vt, .bool fa, vc]] w' fun e w'' => ∃ vt' vc', e = .returned (.agg #[vt', .bool fa, vc']) ∧ Hid (TestAt w'' (.agg #[vt', .bool fa, vc']) T fa c vt' vc') ∧ Below w'.heap.size w' w'') := fun w' hb => copy_any T fa c _ vt vc w' (h.keep hb)
  have HC3 : Hid (∀ w' vt' vc', TestAt w' (.agg #[vt', .bool fa, vc']) T fa c vt' vc' → Calls Try.prog 19 #[.agg #[vt', .bool fa, vc']] w' fun e w'' => ∃ (u : Value) (er : Int), e = .returned (.tuple #[u, .int .i64 er]) ∧ Hid (OOut T c al w'' u er) ∧ Below w'.heap.size w' w'') := fun w' vt' vc' ht => outcomesP_any T fa c al hal vt' vc' w' ht
  have HC4 : Hid (∀ w', Below w.heap.size w w' → Calls Try.prog 28 #[.agg #[vt, .bool fa, vc]] w' fun e w'' => e = .returned (.int .i64 (chk T c).1) ∧ Below w'.heap.size w' w'') := fun w' hb => asked_any T fa c _ vt vc w' (h.keep hb)
  have HJ : Hid (∀ w' u er, OOut T c al w' u er → ((chk T c).1 ≠ 0 ∧ er = (chk T c).1 ∧ u = .slice none 0 0) ∨ ((chk T c).1 = 0 ∧ er = 0 ∧ OutAt w' u (outT al T))) := fun _ _ _ h => h
  have HF : Hid ((chk T c).1 = 0 → KFit (3 * T.length + 3) (outT al T)) := outT_fit hal
  have HT4 : Hid ((chk T c).1 = 0 → T.length ≤ 4) := fun h => (fits_of (by simpa using h)).short.t4
  have HM : Hid (∀ w' u, ((chk T c).1 ≠ 0 ∧ u = .slice none 0 0) ∨ ((chk T c).1 = 0 ∧ OutAt w' u (outT al T)) → KOut T c al w' u) := fun _ _ h => h
  generalize KOut T c al = M at HM ⊢
  generalize OOut T c al = J at HC3 HJ
  generalize (chk T c).1 = q at HC4 HJ HF HM HT4
  generalize outT al T = K at HJ HF HM
  obtain ⟨ht0, aot, bt, offt, capt, htv, _⟩ := h.ht.opened
  obtain ⟨hc0, aoc, bc, offc, capc, hsc⟩ := h.hc
  have hcv := hsc.hv
  subst htv hcv
  clear h hsc hal
  go_enter Try.func13, Try.ntmps13
  go_wp2_with fail
  have hba := below_alloc w (.cells #[.slice aot T.length capt, .bool fa, .slice aoc c.length capc] 25)
  refine (HC1.out _ hba).mono ?_
  rintro e w3 ⟨vt3, vc3, rfl, ht3, hb3⟩
  go_wp2_with fail
  refine (HC3.out w3 vt3 vc3 ht3.out).mono ?_
  rintro e w4 ⟨u4, er4, rfl, hj4, hb4⟩
  have hb34 := below_more hb3 hb4
  have t0 := keep_cell hb34 (b := w.heap.size) (off := 0) (u := .slice aot T.length capt) (by simp)
  have t1 := keep_cell hb34 (b := w.heap.size) (off := 1) (u := .bool fa) (by simp)
  have t2 := keep_cell hb34 (b := w.heap.size) (off := 2) (u := .slice aoc c.length capc) (by simp)
  have hbw4 := below_more hba hb34
  clear ht3 hb3 hb4 hb34
  go_wp2_with fail
  refine (HC4.out w4 hbw4).mono ?_
  rintro e w6 ⟨rfl, hb6⟩
  have hbw6 := below_more hbw4 hb6
  rcases HJ.out _ _ _ hj4.out with ⟨q0, rfl, rfl⟩ | ⟨q0, rfl, hu4⟩
  · have k1 : (er4 != er4) = false := by simp
    have k2 : (er4 != 0) = true := by simpa using q0
    have HMM : Hid (M w6 (.slice none 0 0)) := HM.out _ _ (.inl ⟨q0, rfl⟩)
    clear hj4 t0 t1 t2 q0 HJ HM HF hb6 hbw4 HC3
    go_wp2_with fail
    go_ret2
    exact ⟨_, rfl, HMM.out, hbw6⟩
  · have hf := HF.out q0
    have hT4 := HT4.out q0
    subst q0
    obtain ⟨r, cap, rfl⟩ := hu4.form2 hf.ne
    have hlen : decide (0 < K.length) = true := by have := List.length_pos_iff.2 hf.ne; simpa using this
    have HR : Hid (Calls Try.prog 29 #[.slice (some r) K.length cap] w6 fun e w'' => e = .returned (.bool true) ∧ Below w6.heap.size w6 w'') := rising_any K hf.few (fun p hp => by have := hf.len p hp; omega) hf.srt hf.pos _ w6 (hu4.keep hb6)
    have HU : Hid (∀ w', Below w6.heap.size w6 w' → M w' (.slice (some r) K.length cap)) := fun w' hb => HM.out _ _ (.inr ⟨rfl, (hu4.keep hb6).keep hb⟩)
    clear hj4 t0 t1 t2 HJ HM HF hb6 hbw4 HC3 hf hu4 HT4 hT4
    generalize K.length = ln at *
    go_wp2_with fail
    refine HR.out.mono ?_
    rintro e w7 ⟨rfl, hb7⟩
    have HMM : Hid (M w7 (.slice (some r) ln cap)) := HU.out _ hb7
    go_wp2_with fail
    go_ret2
    exact ⟨_, rfl, HMM.out, below_more hbw6 hb7⟩

end Go.Proofs.Ytomijmikkbhgmab

namespace Go.Proofs.Ytomijmikkbhgmab

/-- All but the place of an event stays. -/
def Plac (g : Evt → Evt) : Prop := ∀ y, (g y).kind = y.kind ∧ (g y).thread = y.thread ∧ (g y).loc = y.loc ∧ (g y).ins = y.ins

theorem wrs_map {g : Evt → Evt} (hg : Plac g) (E : List Evt) (i : Nat) (loc : Int) : wrs (E.map g) i loc = wrs E i loc := by
  induction E generalizing i with
  | nil => rfl
  | cons x E ih => simp only [List.map_cons, wrs, (hg x).1, (hg x).2.2.1, ih]
theorem prodR_map {g : Evt → Evt} (hg : Plac g) (E R : List Evt) : prodR (E.map g) (R.map g) = prodR E R := by
  induction R with
  | nil => rfl
  | cons x R ih => simp only [List.map_cons, prodR, (hg x).1, (hg x).2.2.1, wrs_map hg, ih]
theorem sizeN_map {g : Evt → Evt} (hg : Plac g) (E : List Evt) : sizeN (E.map g) = sizeN E := by
  unfold sizeN
  simp only [prodR_map hg, wrs_map hg]
theorem rdo_map {g : Evt → Evt} (hg : Plac g) (E R : List Evt) : rdo (E.map g) (R.map g) = rdo E R := by
  induction R with
  | nil => rfl
  | cons x R ih => simp only [List.map_cons, rdo, (hg x).1, (hg x).2.2.1, wrs_map hg, ih]
theorem facL_map {g : Evt → Evt} (hg : Plac g) (E : List Evt) (j : Nat) : facL (E.map g) j = facL E j := by
  unfold facL
  simp only [wrs_map hg]
theorem exN_map {g : Evt → Evt} (hg : Plac g) (E : List Evt) (n : Nat) : exN (E.map g) n = exN E n := by
  unfold exN
  simp only [rdo_map hg, sizeN_map hg, wrs_map hg, facL_map hg]
theorem rdsX_map {g : Evt → Evt} (hg : Plac g) (E : List Evt) (i : Nat) : rdsX (E.map g) i = (rdsX E i).map (Prod.map id g) := by
  induction E generalizing i with
  | nil => rfl
  | cons x E ih =>
    simp only [List.map_cons, rdsX, (hg x).1, ih]
    split <;> rfl
theorem rdsZ_map {g : Evt → Evt} (hg : Plac g) (E : List Evt) (f : List Int) : (rdsX (E.map g) 0).zip f = ((rdsX E 0).zip f).map (Prod.map (Prod.map id g) id) := by
  rw [rdsX_map hg, List.zip_map_left]
theorem arwL_map {g : Evt → Evt} (hg : Plac g) (E : List Evt) (x : Exe) : arwL (E.map g) x = arwL E x := by
  unfold arwL
  rw [rdsZ_map hg, List.flatMap_map]
  congr 2
  funext q
  unfold arw1
  simp only [Prod.map_fst, Prod.map_snd, id, (hg q.1.2).2.2.1]
theorem tornB_map {g : Evt → Evt} (hg : Plac g) (E : List Evt) (x : Exe) : tornB (E.map g) x = tornB E x := by
  unfold tornB
  rw [rdsZ_map hg, List.any_map]
  congr 1
  funext q
  simp only [Function.comp, torn1, Prod.map_fst, Prod.map_snd, id, (hg q.1.2).2.2.1, (hg q.1.2).2.2.2]
theorem thoL_map {g : Evt → Evt} (hg : Plac g) (k : Int) (E : List Evt) (i : Nat) : thoL k (E.map g) i = thoL k E i := by
  induction E generalizing i with
  | nil => rfl
  | cons x E ih => simp only [List.map_cons, thoL, (hg x).1, ih]
theorem srcG_map {g : Evt → Evt} (hg : Plac g) (y : Evt) (E : List Evt) (i : Nat) (a : Int) : srcG y (E.map g) i a = srcG y E i a := by
  induction E generalizing i a with
  | nil => rfl
  | cons x E ih => simp only [List.map_cons, srcG, (hg x).1, (hg x).2.1, (hg x).2.2.2, ih]
theorem srcG_mapY {g : Evt → Evt} (hg : Plac g) (y : Evt) (E : List Evt) (i : Nat) (a : Int) : srcG (g y) (E.map g) i a = srcG y E i a := by
  rw [srcG_map hg]
  induction E generalizing i a with
  | nil => rfl
  | cons x E ih => simp only [srcG, (hg y).2.1, (hg y).2.2.2, ih]
theorem frG_map {g : Evt → Evt} (_hg : Plac g) (L : List ((Nat × Evt) × Int)) (r : Int) : frG (L.map (Prod.map (Prod.map id g) id)) r = frG L r := by
  induction L with
  | nil => rfl
  | cons q L ih => simp only [List.map_cons, frG, Prod.map_fst, Prod.map_snd, id, ih]
theorem frS_map {g : Evt → Evt} (hg : Plac g) (E : List Evt) (x : Exe) : frS (E.map g) x = frS E x := by
  funext r
  unfold frS
  rw [rdsZ_map hg, frG_map hg]
theorem valN_map {g : Evt → Evt} (hg : Plac g) (E : List Evt) (S : Nat → Int) (d : Nat) (i : Int) : valN (E.map g) S d i = valN E S d i := by
  induction d generalizing i with
  | zero => rfl
  | succ d ih =>
    unfold valN
    rw [List.getElem?_map]
    cases h : E[i.toNat]? with
    | none => rfl
    | some y => simp only [Option.map_some, (hg y).1, (hg y).2.2.2, ← List.map_take, srcG_mapY hg, ih]
theorem stX_map {g : Evt → Evt} (hg : Plac g) (T T' : List (List Ins)) (hT : T'.length = T.length) (E : List Evt) (x : Exe) : stX T' (E.map g) x = stX T E x := by
  unfold stX staL
  rw [hT, frS_map hg]
  have h1 : ∀ i r, regV (E.map g) (frS E x) i r = regV E (frS E x) i r := fun i r => by
    unfold regV
    rw [valN_map hg, srcG_map hg, List.length_map]
  have h2 : ∀ j, locV (E.map g) (frS E x) x j = locV E (frS E x) x j := fun j => by
    unfold locV
    simp only [valN_map hg, List.length_map]
  rw [funext fun j => h2 j, funext fun i => congrArg (fun f => (List.range 3).map f) (funext fun r => h1 i r)]
theorem cohA_map {g : Evt → Evt} (hg : Plac g) (E : List Evt) (x : Exe) : cohA (E.map g) x = cohA E x := by
  unfold cohA
  rw [arwL_map hg, List.length_map]
  congr 2
  funext i j
  unfold pairB
  rw [List.getElem?_map, List.getElem?_map]
  cases hi : E[i]? with
  | none => rfl
  | some a =>
    cases hj : E[j]? with
    | none => rfl
    | some b => simp only [Option.map_some, cohP, (hg a).1, (hg b).1, (hg a).2.1, (hg b).2.1, (hg a).2.2.1, (hg b).2.2.1]

/-- Behind a place of one thread everything stands one further back. -/
def shF (i p : Nat) (y : Evt) : Evt := { y with place := if y.thread == (i : Int) && decide ((p : Int) ≤ y.place) then y.place + 1 else y.place }
theorem shF_plac (i p : Nat) : Plac (shF i p) := fun _ => ⟨rfl, rfl, rfl, rfl⟩

theorem evsK_other (i p k j : Nat) (hk : k ≠ i) (x : Ins) (ks : List Int) : (evsK k j x ks).map (shF i p) = evsK k j x ks := by
  unfold evsK
  rw [List.map_map]
  refine List.map_congr_left fun q _ => ?_
  have : ((k : Int) == (i : Int)) = false := by simp; omega
  simp [shF, this]
theorem evsI_other (i p k : Nat) (hk : k ≠ i) (l : List Ins) (j : Nat) : (evsI k l j).map (shF i p) = evsI k l j := by
  induction l generalizing j with
  | nil => rfl
  | cons x l ih => rw [evsI, List.map_append, evsK_other i p k j hk, ih]
theorem evsK_behind (i p j : Nat) (hj : p ≤ j) (x : Ins) (ks : List Int) : (evsK i j x ks).map (shF i p) = evsK i (j + 1) x ks := by
  unfold evsK
  rw [List.map_map]
  refine List.map_congr_left fun q _ => ?_
  simp [shF, hj]
theorem evsK_ahead (i p j : Nat) (hj : j < p) (x : Ins) (ks : List Int) : (evsK i j x ks).map (shF i p) = evsK i j x ks := by
  unfold evsK
  rw [List.map_map]
  refine List.map_congr_left fun q _ => ?_
  have : ¬ p ≤ j := by omega
  simp [shF, this]
theorem evsI_behind (i p : Nat) (l : List Ins) (j : Nat) (hj : p ≤ j) : (evsI i l j).map (shF i p) = evsI i l (j + 1) := by
  induction l generalizing j with
  | nil => rfl
  | cons x l ih => rw [evsI, evsI, List.map_append, evsK_behind i p j hj, ih _ (by omega)]

/-- A thread with one instruction more. -/
def insI (l : List Ins) (p : Nat) (z : Ins) : List Ins := l.take p ++ z :: l.drop p

theorem evsI_more (i : Nat) (z : Ins) (hz : z.op = 4) (p : Nat) (l : List Ins) (hp : p ≤ l.length) (j : Nat) : evsI i (insI l p z) j = (evsI i l j).map (shF i (j + p)) := by
  induction p generalizing l j with
  | zero =>
    unfold insI
    rw [List.take_zero, List.drop_zero, List.nil_append, evsI, hz]
    rw [show kindsOf 4 = [] from rfl, show evsK i j z [] = [] from rfl, List.nil_append]
    exact (evsI_behind i (j + 0) l j (by omega)).symm
  | succ p ih =>
    cases l with
    | nil => simp at hp
    | cons x l =>
      have := ih l (by simpa using hp) (j + 1)
      unfold insI at this ⊢
      rw [List.take_succ_cons, List.drop_succ_cons, List.cons_append, evsI, this, evsI, List.map_append, evsK_ahead i (j + (p + 1)) j (by omega), show j + 1 + p = j + (p + 1) by omega]

theorem evsT_other (i p : Nat) (T : List (List Ins)) (o : Nat) (ho : i < o) : (evsT T o).map (shF i p) = evsT T o := by
  induction T generalizing o with
  | nil => rfl
  | cons l T ih => rw [evsT, List.map_append, evsI_other i p o (by omega), ih _ (by omega)]

theorem evsT_more (z : Ins) (hz : z.op = 4) (i p : Nat) (T : List (List Ins)) (l : List Ins) (hl : T[i]? = some l) (hp : p ≤ l.length) (o : Nat) : evsT (T.set i (insI l p z)) o = (evsT T o).map (shF (o + i) p) := by
  induction T generalizing i o with
  | nil => simp at hl
  | cons a T ih =>
    cases i with
    | zero =>
      simp at hl
      subst hl
      rw [List.set_cons_zero, evsT, evsT, List.map_append, evsI_more o z hz p a hp 0, Nat.zero_add, show o + 0 = o from rfl, evsT_other o p T (o + 1) (by omega)]
    | succ i =>
      have := ih i (by simpa using hl) (o + 1)
      rw [List.set_cons_succ, evsT, this, evsT, List.map_append, evsI_other (o + (i + 1)) p o (by omega), show o + 1 + i = o + (i + 1) by omega]

theorem insI_get (l : List Ins) (p : Nat) (z : Ins) (hp : p ≤ l.length) (k : Nat) (y : Ins) (h : l[k]? = some y) : (insI l p z)[if p ≤ k then k + 1 else k]? = some y := by
  unfold insI
  have hk := (List.getElem?_eq_some_iff.1 h).1
  by_cases hc : p ≤ k
  · rw [if_pos hc, List.getElem?_append_right (by rw [List.length_take]; omega), List.length_take, Nat.min_eq_left hp, show k + 1 - p = (k - p) + 1 by omega, List.getElem?_cons_succ, List.getElem?_drop, show p + (k - p) = k by omega]
    exact h
  · rw [if_neg hc, List.getElem?_append_left (by rw [List.length_take]; omega), List.getElem?_take_of_lt (by omega)]
    exact h

theorem fenB_iff {l : List Ins} {a b : Evt} : fenB l a b = true ↔ ∃ (k : Nat) (z : Ins), a.place.toNat < k ∧ k < b.place.toNat ∧ l[k]? = some z ∧ fen1 a b z = true := by
  unfold fenB
  rw [List.any_eq_true]
  constructor
  · rintro ⟨z, hz, h⟩
    obtain ⟨j, hj⟩ := List.getElem?_of_mem hz
    rw [List.getElem?_drop] at hj
    have hlt := (List.getElem?_eq_some_iff.1 hj).1
    rw [List.length_take] at hlt
    rw [List.getElem?_take_of_lt (by omega)] at hj
    exact ⟨_, z, by omega, by omega, hj, h⟩
  · rintro ⟨k, z, h1, h2, h3, h4⟩
    refine ⟨z, ?_, h4⟩
    have : ((l.take b.place.toNat).drop (a.place.toNat + 1))[k - (a.place.toNat + 1)]? = some z := by
      rw [List.getElem?_drop, show a.place.toNat + 1 + (k - (a.place.toNat + 1)) = k by omega, List.getElem?_take_of_lt h2]
      exact h3
    exact List.mem_of_getElem? this

theorem fenB_more {l : List Ins} {p : Nat} {z : Ins} (hp : p ≤ l.length) {i : Nat} {a b : Evt} (ha : a.thread = (i : Int)) (hb : b.thread = (i : Int)) (ha0 : 0 ≤ a.place) (hb0 : 0 ≤ b.place) (h : fenB l a b = true) : fenB (insI l p z) (shF i p a) (shF i p b) = true := by
  obtain ⟨k, y, h1, h2, h3, h4⟩ := fenB_iff.1 h
  refine fenB_iff.2 ⟨_, y, ?_, ?_, insI_get l p z hp k y h3, h4⟩
  · simp only [shF, ha, beq_self_eq_true, Bool.true_and, decide_eq_true_eq]
    split <;> split <;> omega
  · simp only [shF, hb, beq_self_eq_true, Bool.true_and, decide_eq_true_eq]
    split <;> split <;> omega

theorem fenB_same {l : List Ins} {p i : Nat} {a b : Evt} (ha : a.thread ≠ (i : Int)) (hb : b.thread ≠ (i : Int)) : fenB l (shF i p a) (shF i p b) = fenB l a b := by
  have h1 : shF i p a = a := by
    have : (a.thread == (i : Int)) = false := by simpa using ha
    simp [shF, this]
  have h2 : shF i p b = b := by
    have : (b.thread == (i : Int)) = false := by simpa using hb
    simp [shF, this]
  rw [h1, h2]

/-- One Fence more keeps all that was kept. -/
theorem kepA_more {T : List (List Ins)} {i p : Nat} {l : List Ins} {z : Ins} (hl : T[i]? = some l) (hp : p ≤ l.length) (E : List Evt) (hE : ∀ y ∈ E, 0 ≤ y.thread ∧ 0 ≤ y.place) (x : Exe) : ∀ q ∈ kepA T E x, q ∈ kepA (T.set i (insI l p z)) (E.map (shF i p)) x := by
  intro q hq
  unfold kepA at hq ⊢
  rw [arwL_map (shF_plac i p), List.length_map]
  rcases List.mem_append.1 hq with h | h
  · exact List.mem_append_left _ h
  · refine List.mem_append_right _ ?_
    obtain ⟨a, b, _, _, rfl⟩ := allD_arws _ _ q h
    obtain ⟨h1, h2, h3⟩ := allD_mem.1 h
    refine allD_mem.2 ⟨h1, h2, ?_⟩
    obtain ⟨y, hy⟩ := get_of_lt (l := E) (k := b) h1
    obtain ⟨u, hu⟩ := get_of_lt (l := E) (k := a) (by omega)
    rw [pairB_get hu hy] at h3
    rw [pairB_get (a := shF i p u) (b := shF i p y) (by rw [List.getElem?_map, hu]; rfl) (by rw [List.getElem?_map, hy]; rfl)]
    obtain ⟨u1, u2⟩ := hE u (List.mem_of_getElem? hu)
    obtain ⟨y1, y2⟩ := hE y (List.mem_of_getElem? hy)
    unfold keepP at h3 ⊢
    rw [Bool.and_eq_true] at h3 ⊢
    refine ⟨h3.1, ?_⟩
    have hth : u.thread = y.thread := by simpa using h3.1
    have h4 := h3.2
    unfold keepB at h4 ⊢
    rw [Bool.or_eq_true, Bool.or_eq_true] at h4 ⊢
    rcases h4 with (h4 | h4) | h4
    · refine .inl (.inl ?_)
      show fenB ((T.set i (insI l p z)).getD u.thread.toNat []) _ _ = true
      by_cases hc : u.thread = (i : Int)
      · rw [hc, Int.toNat_natCast] at h4 ⊢
        have e1 : T.getD i [] = l := by rw [List.getD_eq_getElem?_getD, hl]; rfl
        have e2 : (T.set i (insI l p z)).getD i [] = insI l p z := by rw [List.getD_eq_getElem?_getD, List.getElem?_set_self (List.getElem?_eq_some_iff.1 hl).1]; rfl
        rw [e1] at h4
        rw [e2]
        exact fenB_more hp hc (by rw [← hth]; exact hc) u2 y2 h4
      · have e2 : (T.set i (insI l p z)).getD u.thread.toNat [] = T.getD u.thread.toNat [] := by
          rw [List.getD_eq_getElem?_getD, List.getD_eq_getElem?_getD, List.getElem?_set_ne (by omega)]
        rw [e2, fenB_same hc (by rw [← hth]; exact hc)]
        exact h4
    · exact .inl (.inr h4)
    · refine .inr ?_
      unfold lastB at h4 ⊢
      rw [← List.map_take, srcG_mapY (shF_plac i p)]
      exact h4

theorem parts_mono (n : Nat) (ms : List Mt) (A B : List (Int × Int)) (h : ∀ q ∈ A, q ∈ B) (hB : Parts n ms B) : Parts n ms A := by
  rw [parts_iff] at hB ⊢
  obtain ⟨β, hb⟩ := hB
  exact ⟨β, fun hc => hb (hc.mono fun q hq => by
    rcases List.mem_append.1 hq with h1 | h1
    · exact List.mem_append_left _ (h q h1)
    · exact List.mem_append_right _ h1)⟩

theorem alB_more {T : List (List Ins)} {i p : Nat} {l : List Ins} {z : Ins} (hl : T[i]? = some l) (hp : p ≤ l.length) (E : List Evt) (hE : ∀ y ∈ E, 0 ≤ y.thread ∧ 0 ≤ y.place) (x : Exe) (h : alB (T.set i (insI l p z)) (E.map (shF i p)) x = true) : alB T E x = true := by
  have h0 : ∀ n A, (!cycB n A) = true ↔ ¬ Cyc n A := fun n A => by rw [← cycB_iff (n := n) (A := A)]; simp
  unfold alB at h ⊢
  rw [cohA_map (shF_plac i p), tornB_map (shF_plac i p), thoL_map (shF_plac i p), thoL_map (shF_plac i p), thoL_map (shF_plac i p), List.length_map] at h
  simp only [Bool.and_eq_true, h0, partsB_iff] at h ⊢
  obtain ⟨⟨⟨h1, h2⟩, h3⟩, h4⟩ := h
  have hm := kepA_more (z := z) hl hp E hE x
  exact ⟨⟨⟨h1, h2⟩, fun hc => h3 (hc.mono hm)⟩, parts_mono _ _ _ _ hm h4⟩

theorem cnSt_cas (al al' : Nat → Bool) (f : Nat → List Int) (N : Nat) (h : ∀ n, n < N → al' n = true → al n = true) (s : List Int) : cnSt ((casN al' N).map f) s ≤ cnSt ((casN al N).map f) s := by
  induction N with
  | zero => exact Nat.le_refl _
  | succ N ih =>
    have ih := ih fun n hn => h n (by omega)
    have hN := h N (by omega)
    cases h1 : al' N
    · rw [casN_no h1]
      cases h2 : al N
      · rw [casN_no h2]; exact ih
      · rw [casN_yes h2, List.map_append, List.map_cons, List.map_nil, cnSt_snoc]; omega
    · rw [casN_yes h1, casN_yes (hN h1), List.map_append, List.map_append]
      show cnSt (_ ++ [f N]) s ≤ cnSt (_ ++ [f N]) s
      rw [cnSt_snoc, cnSt_snoc]
      omega

theorem outT_cnt {T : List (List Ins)} (al : Nat → Bool) (s : List Int) : cnOu (outT al T) s = cnSt ((casN al (sizeN (evsT T 0))).map fun n => stX T (evsT T 0) (exN (evsT T 0) n)) s := by
  obtain ⟨_, _, _, h⟩ := outK_spec (n := 3 * T.length + 3) (L := stsL al T (evsT T 0) (sizeN (evsT T 0))) (fun s hs => by
    unfold stsL at hs
    rw [casN_states] at hs
    obtain ⟨n, _, rfl⟩ := List.mem_map.1 hs
    exact stX_len _ _ _)
  rw [outT, h]
  unfold stsL
  rw [casN_states]

theorem evsT_nn (T : List (List Ins)) : ∀ y ∈ evsT T 0, 0 ≤ y.thread ∧ 0 ≤ y.place := by
  intro y hy
  obtain ⟨i, p, l, h1, h2, _⟩ := evsT_mem hy
  rw [h1, h2]
  exact ⟨by omega, by omega⟩

/-- One Fence more: no outcome that was not there, none more frequent. -/
theorem out_more {T : List (List Ins)} {i p : Nat} {l : List Ins} {z : Ins} (hz : z.op = 4) (hl : T[i]? = some l) (hp : p ≤ l.length) {al al' : Nat → Bool} (hal : Als T (evsT T 0) al) (hal' : Als (T.set i (insI l p z)) (evsT (T.set i (insI l p z)) 0) al') (s : List Int) : cnOu (outT al' (T.set i (insI l p z))) s ≤ cnOu (outT al T) s := by
  rw [outT_cnt, outT_cnt]
  have e := evsT_more z hz i p T l hl hp 0
  rw [Nat.zero_add] at e
  have hg := shF_plac i p
  rw [e] at hal' ⊢
  have hs : ∀ n, stX (T.set i (insI l p z)) ((evsT T 0).map (shF i p)) (exN ((evsT T 0).map (shF i p)) n) = stX T (evsT T 0) (exN (evsT T 0) n) := fun n => by
    rw [exN_map hg, stX_map hg T _ (by simp)]
  rw [funext hs, sizeN_map hg]
  refine cnSt_cas al al' _ _ (fun n hn ha => ?_) s
  have h1 := (hal' n (by rw [sizeN_map hg]; exact hn)).1 ha
  rw [exN_map hg] at h1
  exact (hal n hn).2 (alB_iff.1 (alB_more hl hp _ (evsT_nn T) _ (alB_iff.2 h1)))

end Go.Proofs.Ytomijmikkbhgmab

namespace Go.Proofs.Ytomijmikkbhgmab

/-- What outcomes there are. -/
theorem outT_mem {T : List (List Ins)} (al : Nat → Bool) (s : List Int) : (∃ p ∈ outT al T, p.1 = s) ↔ ∃ n, n < sizeN (evsT T 0) ∧ al n = true ∧ stX T (evsT T 0) (exN (evsT T 0) n) = s := by
  have hp : ∀ p ∈ outT al T, 1 ≤ p.2 := (outK_spec (n := 3 * T.length + 3) (L := stsL al T (evsT T 0) (sizeN (evsT T 0))) (fun s hs => by
    unfold stsL at hs
    rw [casN_states] at hs
    obtain ⟨n, _, rfl⟩ := List.mem_map.1 hs
    exact stX_len _ _ _)).2.2.1
  have hs : SrtK (outT al T) := (outK_spec (n := 3 * T.length + 3) (L := stsL al T (evsT T 0) (sizeN (evsT T 0))) (fun s hs => by
    unfold stsL at hs
    rw [casN_states] at hs
    obtain ⟨n, _, rfl⟩ := List.mem_map.1 hs
    exact stX_len _ _ _)).1
  have hc := outT_cnt (T := T) al s
  have hm : s ∈ (casN al (sizeN (evsT T 0))).map (fun n => stX T (evsT T 0) (exN (evsT T 0) n)) ↔ ∃ n, n < sizeN (evsT T 0) ∧ al n = true ∧ stX T (evsT T 0) (exN (evsT T 0) n) = s := by
    rw [List.mem_map]
    constructor
    · rintro ⟨n, hn, e⟩
      unfold casN at hn
      obtain ⟨h1, h2⟩ := List.mem_filter.1 hn
      exact ⟨n, List.mem_range.1 h1, h2, e⟩
    · rintro ⟨n, h1, h2, e⟩
      exact ⟨n, List.mem_filter.2 ⟨List.mem_range.2 h1, h2⟩, e⟩
  rw [← hm, ← cnSt_pos, ← hc]
  constructor
  · rintro ⟨p, h1, rfl⟩
    rw [cnOu_at hs h1]
    exact hp p h1
  · exact fun h => cnOu_pos h

/-! circles, and none -/
theorem cyc4 {n : Nat} {A : List (Int × Int)} {a b c d : Nat} (ha : a < n) (hb : b < n) (hc : c < n) (hd : d < n) (h1 : ((a : Int), (b : Int)) ∈ A) (h2 : ((b : Int), (c : Int)) ∈ A) (h3 : ((c : Int), (d : Int)) ∈ A) (h4 : ((d : Int), (a : Int)) ∈ A) : Cyc n A := by
  refine ⟨fun i => i = a ∨ i = b ∨ i = c ∨ i = d, ⟨a, ha, .inl rfl⟩, ?_⟩
  rintro i _ (rfl | rfl | rfl | rfl)
  · exact ⟨d, hd, .inr (.inr (.inr rfl)), h4⟩
  · exact ⟨a, ha, .inl rfl, h1⟩
  · exact ⟨b, hb, .inr (.inl rfl), h2⟩
  · exact ⟨c, hc, .inr (.inr (.inl rfl)), h3⟩

theorem up_acyclic {n : Nat} {A : List (Int × Int)} (τ : Nat → Nat) (h : ∀ p ∈ A, τ p.1.toNat < τ p.2.toNat) : ¬ Cyc n A := by
  rintro ⟨S, ⟨b, hb, hS⟩, hC⟩
  have key : ∀ k b, τ b ≤ k → b < n → S b → False := by
    intro k
    induction k with
    | zero =>
      intro b hk hb hS
      obtain ⟨a, _, _, h3⟩ := hC b hb hS
      have := h _ h3
      simp at this
      omega
    | succ k ih =>
      intro b hk hb hS
      obtain ⟨a, h1, h2, h3⟩ := hC b hb hS
      have := h _ h3
      simp at this
      exact ih a (by omega) h1 h2
  exact key _ b (Nat.le_refl _) hb hS

def upB (τ : Nat → Nat) (A : List (Int × Int)) : Bool := A.all fun p => decide (τ p.1.toNat < τ p.2.toNat)
theorem upB_no {n : Nat} {A : List (Int × Int)} {τ : Nat → Nat} (h : upB τ A = true) : ¬ Cyc n A := up_acyclic τ fun p hp => by simpa using List.all_eq_true.1 h p hp

/-- Allowed, by a row of events and by choices. -/
def alU (T : List (List Ins)) (E : List Evt) (x : Exe) (τ : Nat → Nat) (β : Bool) : Bool :=
  upB τ (cohA E x) && !tornB E x && upB τ (kepA T E x) && upB τ (chS (fun _ => β) (mtL (thoL 2 E 0) (thoL 3 E 0) (thoL 4 E 0)))
theorem alU_alw {T : List (List Ins)} {E : List Evt} {x : Exe} {τ : Nat → Nat} {β : Bool} (h : alU T E x τ β = true) : Alw T E x := by
  unfold alU at h
  simp only [Bool.and_eq_true, Bool.not_eq_true'] at h
  obtain ⟨⟨⟨h1, h2⟩, h3⟩, h4⟩ := h
  refine .inr ⟨upB_no h1, .inr ⟨h2, .inr ⟨upB_no h3, .inr ⟨fun hn => hn ?_, rfl⟩⟩⟩⟩
  rw [parts_iff]
  refine ⟨fun _ => β, upB_no (τ := τ) ?_⟩
  unfold upB at h3 h4 ⊢
  rw [List.all_append, h3, h4]
  rfl

/-! the tests -/
def rdL : List Int → Nat → List Ins
  | [], _ => []
  | a :: l, k => ⟨2, a, k, 0, 0⟩ :: rdL l (k + 1)
def rdrT (p : List Int) : List Ins := (⟨5, 0, 0, 0, 0⟩ :: rdL p 0) ++ [⟨6, 0, 0, 0, 0⟩]
def secT (p q : List Int) : List (List Ins) := [[⟨0, 0, 0, 1, 0⟩, ⟨7, 0, 0, 0, 0⟩, ⟨0, 1, 0, 1, 0⟩], rdrT p, rdrT q]
def pats : List (List Int) := [[], [0], [1], [0, 0], [0, 1], [1, 0], [1, 1], [0, 0, 0], [0, 0, 1], [0, 1, 0], [0, 1, 1], [1, 0, 0], [1, 0, 1], [1, 1, 0], [1, 1, 1]]

def isAt (E : List Evt) (i : Nat) (k loc op val : Int) : Bool := match E[i]? with
  | none => false
  | some y => y.kind == k && y.loc == loc && y.ins.op == op && y.ins.val == val
/-- A section: its Begin stands at b. -/
def secR (T : List (List Ins)) (E : List Evt) (b : Nat) (p : List Int) (k : Nat) : Bool :=
  decide (b + 1 + p.length < E.length) && ((List.range p.length).all fun i => pairB E (keepP T E) b (b + 1 + i) && pairB E (keepP T E) (b + 1 + i) (b + 1 + p.length) && isAt E (b + 1 + i) 0 (p.getD i 0) 2 0 && srcG (evtOf (k : Int) (i : Int)) E 0 (-1) == ((b + 1 + i : Nat) : Int))
def mtB (m : Mt) (b e s f : Int) : Bool := m.b == b && m.e == e && m.s == s && m.f == f
def mtsB (ms : List Mt) (b1 e1 b2 e2 : Int) : Bool := match ms with
  | [m, m'] => mtB m b1 e1 1 2 && mtB m' b2 e2 1 2
  | _ => false
def oneL (p : List Int) : List Int := (List.range 3).map fun i => if i < p.length then 1 else 0
def secB (p q : List Int) : Bool :=
  (chk (secT p q) []).1 == 0 && (pairB (evsT (secT p q) 0) (keepP (secT p q) (evsT (secT p q) 0)) 0 1 && pairB (evsT (secT p q) 0) (keepP (secT p q) (evsT (secT p q) 0)) 2 3) && (isAt (evsT (secT p q) 0) 0 1 0 0 1 && isAt (evsT (secT p q) 0) 3 1 1 0 1) &&
    (wrs (evsT (secT p q) 0) 0 0 == [0] && wrs (evsT (secT p q) 0) 0 1 == [3]) && (secR (secT p q) (evsT (secT p q) 0) 4 p 1 && secR (secT p q) (evsT (secT p q) 0) (6 + p.length) q 2) &&
    mtsB (mtL (thoL 2 (evsT (secT p q) 0) 0) (thoL 3 (evsT (secT p q) 0) 0) (thoL 4 (evsT (secT p q) 0) 0)) 4 ((5 + p.length : Nat) : Int) ((6 + p.length : Nat) : Int) ((7 + p.length + q.length : Nat) : Int)
def secN (p q : List Int) : Bool := alU (secT p q) (evsT (secT p q) 0) (exN (evsT (secT p q) 0) 0) (fun e => if e < 4 then e + 100 else e) false && stX (secT p q) (evsT (secT p q) 0) (exN (evsT (secT p q) 0) 0) == [0, 0, 0, 0, 0, 0, 0, 0, 0, 1, 1, 0]
def secA (p q : List Int) : Bool := alU (secT p q) (evsT (secT p q) 0) (exN (evsT (secT p q) 0) (sizeN (evsT (secT p q) 0) - 1)) (fun e => e) true && stX (secT p q) (evsT (secT p q) 0) (exN (evsT (secT p q) 0) (sizeN (evsT (secT p q) 0) - 1)) == [0, 0, 0] ++ oneL p ++ oneL q ++ [1, 1, 0]

set_option maxRecDepth 100000 in
theorem secB_all : (pats.all fun p => pats.all fun q => secB p q) = true := by kernel_rfl
set_option maxRecDepth 100000 in
theorem secN_all : (pats.all fun p => pats.all fun q => secN p q) = true := by kernel_rfl
set_option maxRecDepth 100000 in
theorem secA_all : (pats.all fun p => pats.all fun q => secA p q) = true := by kernel_rfl

end Go.Proofs.Ytomijmikkbhgmab
