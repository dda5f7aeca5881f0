import Derived.Test.YtomijmikkbhgmabT29
import Derived.Test.YtomijmikkbhgmabT25
import Derived.KernelRfl
import Derived.Test.YtomijmikkbhgmabT27
namespace Go.Proofs.Ytomijmikkbhgmab

/-- All but the place of an event stays. -/
def Plac (g : Evt → Evt) : Prop := ∀ y, (g y).kind = y.kind ∧ (g y).thread = y.thread ∧ (g y).loc = y.loc ∧ (g y).ins = y.ins

theorem wrs_map {g : Evt → Evt} (hg : Plac g) (E : List Evt) (i : Nat) (loc : Int) : wrs (E.map g) i loc = wrs E i loc := by
  induction E generalizing i with
  | nil => rfl
  | cons x E ih => simp only [List.map_cons, wrs, (hg x).1, (hg x).2.2.1, ih]
theorem prodR_map {g : Evt → Evt} (hg : Plac g) (E R : List Evt) : prodR (E.map g) (R.map g) = prodR E R := by
  induction R with
  | nil => rfl
  | cons x R ih => simp only [List.map_cons, prodR, (hg x).1, (hg x).2.2.1, wrs_map hg, ih]
theorem sizeN_map {g : Evt → Evt} (hg : Plac g) (E : List Evt) : sizeN (E.map g) = sizeN E := by
  unfold sizeN
  simp only [prodR_map hg, wrs_map hg]
theorem rdo_map {g : Evt → Evt} (hg : Plac g) (E R : List Evt) : rdo (E.map g) (R.map g) = rdo E R := by
  induction R with
  | nil => rfl
  | cons x R ih => simp only [List.map_cons, rdo, (hg x).1, (hg x).2.2.1, wrs_map hg, ih]
theorem facL_map {g : Evt → Evt} (hg : Plac g) (E : List Evt) (j : Nat) : facL (E.map g) j = facL E j := by
  unfold facL
  simp only [wrs_map hg]
theorem exN_map {g : Evt → Evt} (hg : Plac g) (E : List Evt) (n : Nat) : exN (E.map g) n = exN E n := by
  unfold exN
  simp only [rdo_map hg, sizeN_map hg, wrs_map hg, facL_map hg]
theorem rdsX_map {g : Evt → Evt} (hg : Plac g) (E : List Evt) (i : Nat) : rdsX (E.map g) i = (rdsX E i).map (Prod.map id g) := by
  induction E generalizing i with
  | nil => rfl
  | cons x E ih =>
    simp only [List.map_cons, rdsX, (hg x).1, ih]
    split <;> rfl
theorem rdsZ_map {g : Evt → Evt} (hg : Plac g) (E : List Evt) (f : List Int) : (rdsX (E.map g) 0).zip f = ((rdsX E 0).zip f).map (Prod.map (Prod.map id g) id) := by
  rw [rdsX_map hg, List.zip_map_left]
theorem arwL_map {g : Evt → Evt} (hg : Plac g) (E : List Evt) (x : Exe) : arwL (E.map g) x = arwL E x := by
  unfold arwL
  rw [rdsZ_map hg, List.flatMap_map]
  congr 2
  funext q
  unfold arw1
  simp only [Prod.map_fst, Prod.map_snd, id, (hg q.1.2).2.2.1]
theorem tornB_map {g : Evt → Evt} (hg : Plac g) (E : List Evt) (x : Exe) : tornB (E.map g) x = tornB E x := by
  unfold tornB
  rw [rdsZ_map hg, List.any_map]
  congr 1
  funext q
  simp only [Function.comp, torn1, Prod.map_fst, Prod.map_snd, id, (hg q.1.2).2.2.1, (hg q.1.2).2.2.2]
theorem thoL_map {g : Evt → Evt} (hg : Plac g) (k : Int) (E : List Evt) (i : Nat) : thoL k (E.map g) i = thoL k E i := by
  induction E generalizing i with
  | nil => rfl
  | cons x E ih => simp only [List.map_cons, thoL, (hg x).1, ih]
theorem srcG_map {g : Evt → Evt} (hg : Plac g) (y : Evt) (E : List Evt) (i : Nat) (a : Int) : srcG y (E.map g) i a = srcG y E i a := by
  induction E generalizing i a with
  | nil => rfl
  | cons x E ih => simp only [List.map_cons, srcG, (hg x).1, (hg x).2.1, (hg x).2.2.2, ih]
theorem srcG_mapY {g : Evt → Evt} (hg : Plac g) (y : Evt) (E : List Evt) (i : Nat) (a : Int) : srcG (g y) (E.map g) i a = srcG y E i a := by
  rw [srcG_map hg]
  induction E generalizing i a with
  | nil => rfl
  | cons x E ih => simp only [srcG, (hg y).2.1, (hg y).2.2.2, ih]
theorem frG_map {g : Evt → Evt} (_hg : Plac g) (L : List ((Nat × Evt) × Int)) (r : Int) : frG (L.map (Prod.map (Prod.map id g) id)) r = frG L r := by
  induction L with
  | nil => rfl
  | cons q L ih => simp only [List.map_cons, frG, Prod.map_fst, Prod.map_snd, id, ih]
theorem frS_map {g : Evt → Evt} (hg : Plac g) (E : List Evt) (x : Exe) : frS (E.map g) x = frS E x := by
  funext r
  unfold frS
  rw [rdsZ_map hg, frG_map hg]
theorem valN_map {g : Evt → Evt} (hg : Plac g) (E : List Evt) (S : Nat → Int) (d : Nat) (i : Int) : valN (E.map g) S d i = valN E S d i := by
  induction d generalizing i with
  | zero => rfl
  | succ d ih =>
    unfold valN
    rw [List.getElem?_map]
    cases h : E[i.toNat]? with
    | none => rfl
    | some y => simp only [Option.map_some, (hg y).1, (hg y).2.2.2, ← List.map_take, srcG_mapY hg, ih]
theorem stX_map {g : Evt → Evt} (hg : Plac g) (T T' : List (List Ins)) (hT : T'.length = T.length) (E : List Evt) (x : Exe) : stX T' (E.map g) x = stX T E x := by
  unfold stX staL
  rw [hT, frS_map hg]
  have h1 : ∀ i r, regV (E.map g) (frS E x) i r = regV E (frS E x) i r := fun i r => by
    unfold regV
    rw [valN_map hg, srcG_map hg, List.length_map]
  have h2 : ∀ j, locV (E.map g) (frS E x) x j = locV E (frS E x) x j := fun j => by
    unfold locV
    simp only [valN_map hg, List.length_map]
  rw [funext fun j => h2 j, funext fun i => congrArg (fun f => (List.range 3).map f) (funext fun r => h1 i r)]
theorem cohA_map {g : Evt → Evt} (hg : Plac g) (E : List Evt) (x : Exe) : cohA (E.map g) x = cohA E x := by
  unfold cohA
  rw [arwL_map hg, List.length_map]
  congr 2
  funext i j
  unfold pairB
  rw [List.getElem?_map, List.getElem?_map]
  cases hi : E[i]? with
  | none => rfl
  | some a =>
    cases hj : E[j]? with
    | none => rfl
    | some b => simp only [Option.map_some, cohP, (hg a).1, (hg b).1, (hg a).2.1, (hg b).2.1, (hg a).2.2.1, (hg b).2.2.1]

/-- Behind a place of one thread everything stands one further back. -/
def shF (i p : Nat) (y : Evt) : Evt := { y with place := if y.thread == (i : Int) && decide ((p : Int) ≤ y.place) then y.place + 1 else y.place }
theorem shF_plac (i p : Nat) : Plac (shF i p) := fun _ => ⟨rfl, rfl, rfl, rfl⟩

theorem evsK_other (i p k j : Nat) (hk : k ≠ i) (x : Ins) (ks : List Int) : (evsK k j x ks).map (shF i p) = evsK k j x ks := by
  unfold evsK
  rw [List.map_map]
  refine List.map_congr_left fun q _ => ?_
  have : ((k : Int) == (i : Int)) = false := by simp; omega
  simp [shF, this]
theorem evsI_other (i p k : Nat) (hk : k ≠ i) (l : List Ins) (j : Nat) : (evsI k l j).map (shF i p) = evsI k l j := by
  induction l generalizing j with
  | nil => rfl
  | cons x l ih => rw [evsI, List.map_append, evsK_other i p k j hk, ih]
theorem evsK_behind (i p j : Nat) (hj : p ≤ j) (x : Ins) (ks : List Int) : (evsK i j x ks).map (shF i p) = evsK i (j + 1) x ks := by
  unfold evsK
  rw [List.map_map]
  refine List.map_congr_left fun q _ => ?_
  simp [shF, hj]
theorem evsK_ahead (i p j : Nat) (hj : j < p) (x : Ins) (ks : List Int) : (evsK i j x ks).map (shF i p) = evsK i j x ks := by
  unfold evsK
  rw [List.map_map]
  refine List.map_congr_left fun q _ => ?_
  have : ¬ p ≤ j := by omega
  simp [shF, this]
theorem evsI_behind (i p : Nat) (l : List Ins) (j : Nat) (hj : p ≤ j) : (evsI i l j).map (shF i p) = evsI i l (j + 1) := by
  induction l generalizing j with
  | nil => rfl
  | cons x l ih => rw [evsI, evsI, List.map_append, evsK_behind i p j hj, ih _ (by omega)]

/-- A thread with one instruction more. -/
def insI (l : List Ins) (p : Nat) (z : Ins) : List Ins := l.take p ++ z :: l.drop p

theorem evsI_more (i : Nat) (z : Ins) (hz : z.op = 4) (p : Nat) (l : List Ins) (hp : p ≤ l.length) (j : Nat) : evsI i (insI l p z) j = (evsI i l j).map (shF i (j + p)) := by
  induction p generalizing l j with
  | zero =>
    unfold insI
    rw [List.take_zero, List.drop_zero, List.nil_append, evsI, hz]
    rw [show kindsOf 4 = [] from rfl, show evsK i j z [] = [] from rfl, List.nil_append]
    exact (evsI_behind i (j + 0) l j (by omega)).symm
  | succ p ih =>
    cases l with
    | nil => simp at hp
    | cons x l =>
      have := ih l (by simpa using hp) (j + 1)
      unfold insI at this ⊢
      rw [List.take_succ_cons, List.drop_succ_cons, List.cons_append, evsI, this, evsI, List.map_append, evsK_ahead i (j + (p + 1)) j (by omega), show j + 1 + p = j + (p + 1) by omega]

theorem evsT_other (i p : Nat) (T : List (List Ins)) (o : Nat) (ho : i < o) : (evsT T o).map (shF i p) = evsT T o := by
  induction T generalizing o with
  | nil => rfl
  | cons l T ih => rw [evsT, List.map_append, evsI_other i p o (by omega), ih _ (by omega)]

theorem evsT_more (z : Ins) (hz : z.op = 4) (i p : Nat) (T : List (List Ins)) (l : List Ins) (hl : T[i]? = some l) (hp : p ≤ l.length) (o : Nat) : evsT (T.set i (insI l p z)) o = (evsT T o).map (shF (o + i) p) := by
  induction T generalizing i o with
  | nil => simp at hl
  | cons a T ih =>
    cases i with
    | zero =>
      simp at hl
      subst hl
      rw [List.set_cons_zero, evsT, evsT, List.map_append, evsI_more o z hz p a hp 0, Nat.zero_add, show o + 0 = o from rfl, evsT_other o p T (o + 1) (by omega)]
    | succ i =>
      have := ih i (by simpa using hl) (o + 1)
      rw [List.set_cons_succ, evsT, this, evsT, List.map_append, evsI_other (o + (i + 1)) p o (by omega), show o + 1 + i = o + (i + 1) by omega]

theorem insI_get (l : List Ins) (p : Nat) (z : Ins) (hp : p ≤ l.length) (k : Nat) (y : Ins) (h : l[k]? = some y) : (insI l p z)[if p ≤ k then k + 1 else k]? = some y := by
  unfold insI
  have hk := (List.getElem?_eq_some_iff.1 h).1
  by_cases hc : p ≤ k
  · rw [if_pos hc, List.getElem?_append_right (by rw [List.length_take]; omega), List.length_take, Nat.min_eq_left hp, show k + 1 - p = (k - p) + 1 by omega, List.getElem?_cons_succ, List.getElem?_drop, show p + (k - p) = k by omega]
    exact h
  · rw [if_neg hc, List.getElem?_append_left (by rw [List.length_take]; omega), List.getElem?_take_of_lt (by omega)]
    exact h

theorem fenB_iff {l : List Ins} {a b : Evt} : fenB l a b = true ↔ ∃ (k : Nat) (z : Ins), a.place.toNat < k ∧ k < b.place.toNat ∧ l[k]? = some z ∧ fen1 a b z = true := by
  unfold fenB
  rw [List.any_eq_true]
  constructor
  · rintro ⟨z, hz, h⟩
    obtain ⟨j, hj⟩ := List.getElem?_of_mem hz
    rw [List.getElem?_drop] at hj
    have hlt := (List.getElem?_eq_some_iff.1 hj).1
    rw [List.length_take] at hlt
    rw [List.getElem?_take_of_lt (by omega)] at hj
    exact ⟨_, z, by omega, by omega, hj, h⟩
  · rintro ⟨k, z, h1, h2, h3, h4⟩
    refine ⟨z, ?_, h4⟩
    have : ((l.take b.place.toNat).drop (a.place.toNat + 1))[k - (a.place.toNat + 1)]? = some z := by
      rw [List.getElem?_drop, show a.place.toNat + 1 + (k - (a.place.toNat + 1)) = k by omega, List.getElem?_take_of_lt h2]
      exact h3
    exact List.mem_of_getElem? this

theorem fenB_more {l : List Ins} {p : Nat} {z : Ins} (hp : p ≤ l.length) {i : Nat} {a b : Evt} (ha : a.thread = (i : Int)) (hb : b.thread = (i : Int)) (ha0 : 0 ≤ a.place) (hb0 : 0 ≤ b.place) (h : fenB l a b = true) : fenB (insI l p z) (shF i p a) (shF i p b) = true := by
  obtain ⟨k, y, h1, h2, h3, h4⟩ := fenB_iff.1 h
  refine fenB_iff.2 ⟨_, y, ?_, ?_, insI_get l p z hp k y h3, h4⟩
  · simp only [shF, ha, beq_self_eq_true, Bool.true_and, decide_eq_true_eq]
    split <;> split <;> omega
  · simp only [shF, hb, beq_self_eq_true, Bool.true_and, decide_eq_true_eq]
    split <;> split <;> omega

theorem fenB_same {l : List Ins} {p i : Nat} {a b : Evt} (ha : a.thread ≠ (i : Int)) (hb : b.thread ≠ (i : Int)) : fenB l (shF i p a) (shF i p b) = fenB l a b := by
  have h1 : shF i p a = a := by
    have : (a.thread == (i : Int)) = false := by simpa using ha
    simp [shF, this]
  have h2 : shF i p b = b := by
    have : (b.thread == (i : Int)) = false := by simpa using hb
    simp [shF, this]
  rw [h1, h2]

/-- One Fence more keeps all that was kept. -/
theorem kepA_more {T : List (List Ins)} {i p : Nat} {l : List Ins} {z : Ins} (hl : T[i]? = some l) (hp : p ≤ l.length) (E : List Evt) (hE : ∀ y ∈ E, 0 ≤ y.thread ∧ 0 ≤ y.place) (x : Exe) : ∀ q ∈ kepA T E x, q ∈ kepA (T.set i (insI l p z)) (E.map (shF i p)) x := by
  intro q hq
  unfold kepA at hq ⊢
  rw [arwL_map (shF_plac i p), List.length_map]
  rcases List.mem_append.1 hq with h | h
  · exact List.mem_append_left _ h
  · refine List.mem_append_right _ ?_
    obtain ⟨a, b, _, _, rfl⟩ := allD_arws _ _ q h
    obtain ⟨h1, h2, h3⟩ := allD_mem.1 h
    refine allD_mem.2 ⟨h1, h2, ?_⟩
    obtain ⟨y, hy⟩ := get_of_lt (l := E) (k := b) h1
    obtain ⟨u, hu⟩ := get_of_lt (l := E) (k := a) (by omega)
    rw [pairB_get hu hy] at h3
    rw [pairB_get (a := shF i p u) (b := shF i p y) (by rw [List.getElem?_map, hu]; rfl) (by rw [List.getElem?_map, hy]; rfl)]
    obtain ⟨u1, u2⟩ := hE u (List.mem_of_getElem? hu)
    obtain ⟨y1, y2⟩ := hE y (List.mem_of_getElem? hy)
    unfold keepP at h3 ⊢
    rw [Bool.and_eq_true] at h3 ⊢
    refine ⟨h3.1, ?_⟩
    have hth : u.thread = y.thread := by simpa using h3.1
    have h4 := h3.2
    unfold keepB at h4 ⊢
    rw [Bool.or_eq_true, Bool.or_eq_true] at h4 ⊢
    rcases h4 with (h4 | h4) | h4
    · refine .inl (.inl ?_)
      show fenB ((T.set i (insI l p z)).getD u.thread.toNat []) _ _ = true
      by_cases hc : u.thread = (i : Int)
      · rw [hc, Int.toNat_natCast] at h4 ⊢
        have e1 : T.getD i [] = l := by rw [List.getD_eq_getElem?_getD, hl]; rfl
        have e2 : (T.set i (insI l p z)).getD i [] = insI l p z := by rw [List.getD_eq_getElem?_getD, List.getElem?_set_self (List.getElem?_eq_some_iff.1 hl).1]; rfl
        rw [e1] at h4
        rw [e2]
        exact fenB_more hp hc (by rw [← hth]; exact hc) u2 y2 h4
      · have e2 : (T.set i (insI l p z)).getD u.thread.toNat [] = T.getD u.thread.toNat [] := by
          rw [List.getD_eq_getElem?_getD, List.getD_eq_getElem?_getD, List.getElem?_set_ne (by omega)]
        rw [e2, fenB_same hc (by rw [← hth]; exact hc)]
        exact h4
    · exact .inl (.inr h4)
    · refine .inr ?_
      unfold lastB at h4 ⊢
      rw [← List.map_take, srcG_mapY (shF_plac i p)]
      exact h4

theorem parts_mono (n : Nat) (ms : List Mt) (A B : List (Int × Int)) (h : ∀ q ∈ A, q ∈ B) (hB : Parts n ms B) : Parts n ms A := by
  rw [parts_iff] at hB ⊢
  obtain ⟨β, hb⟩ := hB
  exact ⟨β, fun hc => hb (hc.mono fun q hq => by
    rcases List.mem_append.1 hq with h1 | h1
    · exact List.mem_append_left _ (h q h1)
    · exact List.mem_append_right _ h1)⟩

theorem alB_more {T : List (List Ins)} {i p : Nat} {l : List Ins} {z : Ins} (hl : T[i]? = some l) (hp : p ≤ l.length) (E : List Evt) (hE : ∀ y ∈ E, 0 ≤ y.thread ∧ 0 ≤ y.place) (x : Exe) (h : alB (T.set i (insI l p z)) (E.map (shF i p)) x = true) : alB T E x = true := by
  have h0 : ∀ n A, (!cycB n A) = true ↔ ¬ Cyc n A := fun n A => by rw [← cycB_iff (n := n) (A := A)]; simp
  unfold alB at h ⊢
  rw [cohA_map (shF_plac i p), tornB_map (shF_plac i p), thoL_map (shF_plac i p), thoL_map (shF_plac i p), thoL_map (shF_plac i p), List.length_map] at h
  simp only [Bool.and_eq_true, h0, partsB_iff] at h ⊢
  obtain ⟨⟨⟨h1, h2⟩, h3⟩, h4⟩ := h
  have hm := kepA_more (z := z) hl hp E hE x
  exact ⟨⟨⟨h1, h2⟩, fun hc => h3 (hc.mono hm)⟩, parts_mono _ _ _ _ hm h4⟩

theorem cnSt_cas (al al' : Nat → Bool) (f : Nat → List Int) (N : Nat) (h : ∀ n, n < N → al' n = true → al n = true) (s : List Int) : cnSt ((casN al' N).map f) s ≤ cnSt ((casN al N).map f) s := by
  induction N with
  | zero => exact Nat.le_refl _
  | succ N ih =>
    have ih := ih fun n hn => h n (by omega)
    have hN := h N (by omega)
    cases h1 : al' N
    · rw [casN_no h1]
      cases h2 : al N
      · rw [casN_no h2]; exact ih
      · rw [casN_yes h2, List.map_append, List.map_cons, List.map_nil, cnSt_snoc]; omega
    · rw [casN_yes h1, casN_yes (hN h1), List.map_append, List.map_append]
      show cnSt (_ ++ [f N]) s ≤ cnSt (_ ++ [f N]) s
      rw [cnSt_snoc, cnSt_snoc]
      omega

theorem outT_cnt {T : List (List Ins)} (al : Nat → Bool) (s : List Int) : cnOu (outT al T) s = cnSt ((casN al (sizeN (evsT T 0))).map fun n => stX T (evsT T 0) (exN (evsT T 0) n)) s := by
  obtain ⟨_, _, _, h⟩ := outK_spec (n := 3 * T.length + 3) (L := stsL al T (evsT T 0) (sizeN (evsT T 0))) (fun s hs => by
    unfold stsL at hs
    rw [casN_states] at hs
    obtain ⟨n, _, rfl⟩ := List.mem_map.1 hs
    exact stX_len _ _ _)
  rw [outT, h]
  unfold stsL
  rw [casN_states]

theorem evsT_nn (T : List (List Ins)) : ∀ y ∈ evsT T 0, 0 ≤ y.thread ∧ 0 ≤ y.place := by
  intro y hy
  obtain ⟨i, p, l, h1, h2, _⟩ := evsT_mem hy
  rw [h1, h2]
  exact ⟨by omega, by omega⟩

/-- One Fence more: no outcome that was not there, none more frequent. -/
theorem out_more {T : List (List Ins)} {i p : Nat} {l : List Ins} {z : Ins} (hz : z.op = 4) (hl : T[i]? = some l) (hp : p ≤ l.length) {al al' : Nat → Bool} (hal : Als T (evsT T 0) al) (hal' : Als (T.set i (insI l p z)) (evsT (T.set i (insI l p z)) 0) al') (s : List Int) : cnOu (outT al' (T.set i (insI l p z))) s ≤ cnOu (outT al T) s := by
  rw [outT_cnt, outT_cnt]
  have e := evsT_more z hz i p T l hl hp 0
  rw [Nat.zero_add] at e
  have hg := shF_plac i p
  rw [e] at hal' ⊢
  have hs : ∀ n, stX (T.set i (insI l p z)) ((evsT T 0).map (shF i p)) (exN ((evsT T 0).map (shF i p)) n) = stX T (evsT T 0) (exN (evsT T 0) n) := fun n => by
    rw [exN_map hg, stX_map hg T _ (by simp)]
  rw [funext hs, sizeN_map hg]
  refine cnSt_cas al al' _ _ (fun n hn ha => ?_) s
  have h1 := (hal' n (by rw [sizeN_map hg]; exact hn)).1 ha
  rw [exN_map hg] at h1
  exact (hal n hn).2 (alB_iff.1 (alB_more hl hp _ (evsT_nn T) _ (alB_iff.2 h1)))

end Go.Proofs.Ytomijmikkbhgmab

namespace Go.Proofs.Ytomijmikkbhgmab

/-- What outcomes there are. -/
theorem outT_mem {T : List (List Ins)} (al : Nat → Bool) (s : List Int) : (∃ p ∈ outT al T, p.1 = s) ↔ ∃ n, n < sizeN (evsT T 0) ∧ al n = true ∧ stX T (evsT T 0) (exN (evsT T 0) n) = s := by
  have hp : ∀ p ∈ outT al T, 1 ≤ p.2 := (outK_spec (n := 3 * T.length + 3) (L := stsL al T (evsT T 0) (sizeN (evsT T 0))) (fun s hs => by
    unfold stsL at hs
    rw [casN_states] at hs
    obtain ⟨n, _, rfl⟩ := List.mem_map.1 hs
    exact stX_len _ _ _)).2.2.1
  have hs : SrtK (outT al T) := (outK_spec (n := 3 * T.length + 3) (L := stsL al T (evsT T 0) (sizeN (evsT T 0))) (fun s hs => by
    unfold stsL at hs
    rw [casN_states] at hs
    obtain ⟨n, _, rfl⟩ := List.mem_map.1 hs
    exact stX_len _ _ _)).1
  have hc := outT_cnt (T := T) al s
  have hm : s ∈ (casN al (sizeN (evsT T 0))).map (fun n => stX T (evsT T 0) (exN (evsT T 0) n)) ↔ ∃ n, n < sizeN (evsT T 0) ∧ al n = true ∧ stX T (evsT T 0) (exN (evsT T 0) n) = s := by
    rw [List.mem_map]
    constructor
    · rintro ⟨n, hn, e⟩
      unfold casN at hn
      obtain ⟨h1, h2⟩ := List.mem_filter.1 hn
      exact ⟨n, List.mem_range.1 h1, h2, e⟩
    · rintro ⟨n, h1, h2, e⟩
      exact ⟨n, List.mem_filter.2 ⟨List.mem_range.2 h1, h2⟩, e⟩
  rw [← hm, ← cnSt_pos, ← hc]
  constructor
  · rintro ⟨p, h1, rfl⟩
    rw [cnOu_at hs h1]
    exact hp p h1
  · exact fun h => cnOu_pos h

/-! circles, and none -/
theorem cyc4 {n : Nat} {A : List (Int × Int)} {a b c d : Nat} (ha : a < n) (hb : b < n) (hc : c < n) (hd : d < n) (h1 : ((a : Int), (b : Int)) ∈ A) (h2 : ((b : Int), (c : Int)) ∈ A) (h3 : ((c : Int), (d : Int)) ∈ A) (h4 : ((d : Int), (a : Int)) ∈ A) : Cyc n A := by
  refine ⟨fun i => i = a ∨ i = b ∨ i = c ∨ i = d, ⟨a, ha, .inl rfl⟩, ?_⟩
  rintro i _ (rfl | rfl | rfl | rfl)
  · exact ⟨d, hd, .inr (.inr (.inr rfl)), h4⟩
  · exact ⟨a, ha, .inl rfl, h1⟩
  · exact ⟨b, hb, .inr (.inl rfl), h2⟩
  · exact ⟨c, hc, .inr (.inr (.inl rfl)), h3⟩

theorem up_acyclic {n : Nat} {A : List (Int × Int)} (τ : Nat → Nat) (h : ∀ p ∈ A, τ p.1.toNat < τ p.2.toNat) : ¬ Cyc n A := by
  rintro ⟨S, ⟨b, hb, hS⟩, hC⟩
  have key : ∀ k b, τ b ≤ k → b < n → S b → False := by
    intro k
    induction k with
    | zero =>
      intro b hk hb hS
      obtain ⟨a, _, _, h3⟩ := hC b hb hS
      have := h _ h3
      simp at this
      omega
    | succ k ih =>
      intro b hk hb hS
      obtain ⟨a, h1, h2, h3⟩ := hC b hb hS
      have := h _ h3
      simp at this
      exact ih a (by omega) h1 h2
  exact key _ b (Nat.le_refl _) hb hS

def upB (τ : Nat → Nat) (A : List (Int × Int)) : Bool := A.all fun p => decide (τ p.1.toNat < τ p.2.toNat)
theorem upB_no {n : Nat} {A : List (Int × Int)} {τ : Nat → Nat} (h : upB τ A = true) : ¬ Cyc n A := up_acyclic τ fun p hp => by simpa using List.all_eq_true.1 h p hp

/-- Allowed, by a row of events and by choices. -/
def alU (T : List (List Ins)) (E : List Evt) (x : Exe) (τ : Nat → Nat) (β : Bool) : Bool :=
  upB τ (cohA E x) && !tornB E x && upB τ (kepA T E x) && upB τ (chS (fun _ => β) (mtL (thoL 2 E 0) (thoL 3 E 0) (thoL 4 E 0)))
theorem alU_alw {T : List (List Ins)} {E : List Evt} {x : Exe} {τ : Nat → Nat} {β : Bool} (h : alU T E x τ β = true) : Alw T E x := by
  unfold alU at h
  simp only [Bool.and_eq_true, Bool.not_eq_true'] at h
  obtain ⟨⟨⟨h1, h2⟩, h3⟩, h4⟩ := h
  refine .inr ⟨upB_no h1, .inr ⟨h2, .inr ⟨upB_no h3, .inr ⟨fun hn => hn ?_, rfl⟩⟩⟩⟩
  rw [parts_iff]
  refine ⟨fun _ => β, upB_no (τ := τ) ?_⟩
  unfold upB at h3 h4 ⊢
  rw [List.all_append, h3, h4]
  rfl

/-! the tests -/
def rdL : List Int → Nat → List Ins
  | [], _ => []
  | a :: l, k => ⟨2, a, k, 0, 0⟩ :: rdL l (k + 1)
def rdrT (p : List Int) : List Ins := (⟨5, 0, 0, 0, 0⟩ :: rdL p 0) ++ [⟨6, 0, 0, 0, 0⟩]
def secT (p q : List Int) : List (List Ins) := [[⟨0, 0, 0, 1, 0⟩, ⟨7, 0, 0, 0, 0⟩, ⟨0, 1, 0, 1, 0⟩], rdrT p, rdrT q]
def pats : List (List Int) := [[], [0], [1], [0, 0], [0, 1], [1, 0], [1, 1], [0, 0, 0], [0, 0, 1], [0, 1, 0], [0, 1, 1], [1, 0, 0], [1, 0, 1], [1, 1, 0], [1, 1, 1]]

def isAt (E : List Evt) (i : Nat) (k loc op val : Int) : Bool := match E[i]? with
  | none => false
  | some y => y.kind == k && y.loc == loc && y.ins.op == op && y.ins.val == val
/-- A section: its Begin stands at b. -/
def secR (T : List (List Ins)) (E : List Evt) (b : Nat) (p : List Int) (k : Nat) : Bool :=
  decide (b + 1 + p.length < E.length) && ((List.range p.length).all fun i => pairB E (keepP T E) b (b + 1 + i) && pairB E (keepP T E) (b + 1 + i) (b + 1 + p.length) && isAt E (b + 1 + i) 0 (p.getD i 0) 2 0 && srcG (evtOf (k : Int) (i : Int)) E 0 (-1) == ((b + 1 + i : Nat) : Int))
def mtB (m : Mt) (b e s f : Int) : Bool := m.b == b && m.e == e && m.s == s && m.f == f
def mtsB (ms : List Mt) (b1 e1 b2 e2 : Int) : Bool := match ms with
  | [m, m'] => mtB m b1 e1 1 2 && mtB m' b2 e2 1 2
  | _ => false
def oneL (p : List Int) : List Int := (List.range 3).map fun i => if i < p.length then 1 else 0
def secB (p q : List Int) : Bool :=
  (chk (secT p q) []).1 == 0 && (pairB (evsT (secT p q) 0) (keepP (secT p q) (evsT (secT p q) 0)) 0 1 && pairB (evsT (secT p q) 0) (keepP (secT p q) (evsT (secT p q) 0)) 2 3) && (isAt (evsT (secT p q) 0) 0 1 0 0 1 && isAt (evsT (secT p q) 0) 3 1 1 0 1) &&
    (wrs (evsT (secT p q) 0) 0 0 == [0] && wrs (evsT (secT p q) 0) 0 1 == [3]) && (secR (secT p q) (evsT (secT p q) 0) 4 p 1 && secR (secT p q) (evsT (secT p q) 0) (6 + p.length) q 2) &&
    mtsB (mtL (thoL 2 (evsT (secT p q) 0) 0) (thoL 3 (evsT (secT p q) 0) 0) (thoL 4 (evsT (secT p q) 0) 0)) 4 ((5 + p.length : Nat) : Int) ((6 + p.length : Nat) : Int) ((7 + p.length + q.length : Nat) : Int)
def secN (p q : List Int) : Bool := alU (secT p q) (evsT (secT p q) 0) (exN (evsT (secT p q) 0) 0) (fun e => if e < 4 then e + 100 else e) false && stX (secT p q) (evsT (secT p q) 0) (exN (evsT (secT p q) 0) 0) == [0, 0, 0, 0, 0, 0, 0, 0, 0, 1, 1, 0]
def secA (p q : List Int) : Bool := alU (secT p q) (evsT (secT p q) 0) (exN (evsT (secT p q) 0) (sizeN (evsT (secT p q) 0) - 1)) (fun e => e) true && stX (secT p q) (evsT (secT p q) 0) (exN (evsT (secT p q) 0) (sizeN (evsT (secT p q) 0) - 1)) == [0, 0, 0] ++ oneL p ++ oneL q ++ [1, 1, 0]

set_option maxRecDepth 100000 in
theorem secB_all : (pats.all fun p => pats.all fun q => secB p q) = true := by kernel_rfl
set_option maxRecDepth 100000 in
theorem secN_all : (pats.all fun p => pats.all fun q => secN p q) = true := by kernel_rfl
set_option maxRecDepth 100000 in
theorem secA_all : (pats.all fun p => pats.all fun q => secA p q) = true := by kernel_rfl

end Go.Proofs.Ytomijmikkbhgmab

namespace Go.Proofs.Ytomijmikkbhgmab

theorem isAt_get {E : List Evt} {i : Nat} {k loc op val : Int} (h : isAt E i k loc op val = true) : ∃ y, E[i]? = some y ∧ y.kind = k ∧ y.loc = loc ∧ y.ins.op = op ∧ y.ins.val = val := by
  unfold isAt at h
  cases hy : E[i]? with
  | none => rw [hy] at h; cases h
  | some y =>
    rw [hy] at h
    simp only [Bool.and_eq_true, beq_iff_eq] at h
    exact ⟨y, rfl, h.1.1.1, h.1.1.2, h.1.2, h.2⟩

theorem alw_parts {T : List (List Ins)} {E : List Evt} {x : Exe} (h : Alw T E x) : Parts E.length (mtL (thoL 2 E 0) (thoL 3 E 0) (thoL 4 E 0)) (kepA T E x) := by
  have := alB_iff.2 h
  unfold alB at this
  simp only [Bool.and_eq_true, partsB_iff] at this
  exact this.2

theorem kep_mem {T : List (List Ins)} {E : List Evt} {x : Exe} {a b : Nat} (h : pairB E (keepP T E) a b = true) (hab : a < b) (hb : b < E.length) : ((a : Int), (b : Int)) ∈ kepA T E x := List.mem_append_right _ (allD_mem.2 ⟨hb, hab, h⟩)

theorem split_no {T : List (List Ins)} {E : List Evt} (hl : E.length ≤ 96) (hloc : ∀ y ∈ E, locB y.loc = true) {x : Exe} (hx : IsEx E x) (hA : Alw T E x) (h01 : pairB E (keepP T E) 0 1 = true) (h23 : pairB E (keepP T E) 2 3 = true) (i0 : isAt E 0 1 0 0 1 = true) (i3 : isAt E 3 1 1 0 1 = true) (w0 : wrs E 0 0 = [0]) (w1 : wrs E 0 1 = [3])
    (b : Nat) (hb4 : 4 ≤ b) (pt : List Int) (k : Nat) (hR : secR T E b pt k = true) (m : Mt) (hm : m ∈ mtL (thoL 2 E 0) (thoL 3 E 0) (thoL 4 E 0)) (hmB : mtB m (b : Int) ((b + 1 + pt.length : Nat) : Int) 1 2 = true)
    (i j : Nat) (hi : pt[i]? = some 0) (hj : pt[j]? = some 1) (hs0 : regV E (frS E x) k i = 0) (hs1 : regV E (frS E x) k j = 1) : False := by
  have hr := hx.ranks hl hloc
  have hli := (List.getElem?_eq_some_iff.1 hi).1
  have hlj := (List.getElem?_eq_some_iff.1 hj).1
  unfold secR at hR
  simp only [Bool.and_eq_true, List.all_eq_true, List.mem_range, decide_eq_true_eq, beq_iff_eq] at hR
  obtain ⟨hbl, hR⟩ := hR
  obtain ⟨⟨⟨ki, _⟩, ai⟩, si⟩ := hR i hli
  obtain ⟨⟨⟨_, kj⟩, aj⟩, sj⟩ := hR j hlj
  obtain ⟨y, hy, y1, y2, _, _⟩ := isAt_get ai
  obtain ⟨z, hz, z1, z2, _, _⟩ := isAt_get aj
  obtain ⟨e0, he0, e01, e02, e03, e04⟩ := isAt_get i0
  obtain ⟨e3, he3, e31, e32, e33, e34⟩ := isAt_get i3
  have hyl : y.loc = 0 := by rw [y2, List.getD_eq_getElem?_getD, hi]; rfl
  have hzl : z.loc = 1 := by rw [z2, List.getD_eq_getElem?_getD, hj]; rfl
  obtain ⟨d, hd⟩ : ∃ d, 2 * E.length = d + 1 + 1 := ⟨2 * E.length - 2, by omega⟩
  have fS : ∀ r u, E[r]? = some u → u.kind = 0 → frS E x r = srcS E x r := fun r u hu hk => (src_same hl hloc hx r u hu (by simp [hk])).symm
  -- the load of x
  have hSy : srcS E x (b + 1 + i) = -1 := by
    rcases hr.read _ y hy y1 with ⟨h, _⟩ | ⟨a, q, h1, _, h3, _⟩
    · exact h
    · exfalso
      have ha : (a : Int) ∈ wrs E 0 0 := by
        have := (hr.mem 0 (by decide) (a : Int)).1 (by rw [← hyl]; exact List.mem_of_getElem? h3)
        exact wrs_iff.2 this
      rw [w0] at ha
      have ha0 : a = 0 := by simpa using ha
      subst ha0
      unfold regV at hs0
      rw [si, hd, valN_read hy (by simp [y1]), fS _ y hy y1] at hs0
      have : valN E (frS E x) (d + 1) (srcS E x (b + 1 + i)) = 1 := by
        have h1' : srcS E x (b + 1 + i) = ((0 : Nat) : Int) := h1
        rw [h1', valN_else he0 (by simp [e01]) (by simp [e03]), e04]
      rw [this] at hs0
      cases hs0
  have hSz : srcS E x (b + 1 + j) = 3 := by
    rcases hr.read _ z hz z1 with ⟨h, _⟩ | ⟨a, q, h1, _, h3, _⟩
    · exfalso
      unfold regV at hs1
      rw [sj, hd, valN_read hz (by simp [z1]), fS _ z hz z1] at hs1
      have h1' : srcS E x (b + 1 + j) = -1 := h
      rw [h1', valN_neg _ _ _ (by omega)] at hs1
      cases hs1
    · have ha : (a : Int) ∈ wrs E 0 1 := by
        have := (hr.mem 1 (by decide) (a : Int)).1 (by rw [← hzl]; exact List.mem_of_getElem? h3)
        exact wrs_iff.2 this
      rw [w1] at ha
      have ha0 : (a : Int) = 3 := by simpa using ha
      rw [← ha0]
      exact h1
  have ay : (((b + 1 + i : Nat) : Int), ((0 : Nat) : Int)) ∈ kepA T E x := by
    refine List.mem_append_left _ (List.mem_append_left _ (List.mem_flatMap.2 ⟨((b + 1 + i, y), -1), (hr.zip _ _ _).2 ⟨hy, y1, hSy⟩, ?_⟩))
    unfold arw1
    refine List.mem_append_right _ (fanL_mem.2 ⟨rfl, ?_⟩)
    show ((0 : Nat) : Int) ∈ restL (ordAt x y.loc) (-1)
    unfold restL
    rw [if_pos (by rfl), hyl]
    exact (hr.mem 0 (by decide) _).2 ⟨0, e0, he0, rfl, e01, e02⟩
  have az : (((3 : Nat) : Int), ((b + 1 + j : Nat) : Int)) ∈ kepA T E x := by
    refine List.mem_append_left _ (List.mem_append_left _ (List.mem_flatMap.2 ⟨((b + 1 + j, z), 3), (hr.zip _ _ _).2 ⟨hz, z1, hSz⟩, ?_⟩))
    unfold arw1
    refine List.mem_append_left _ ?_
    show _ ∈ if ((3 : Int) == -1) = true then [] else _
    rw [if_neg (by decide)]
    exact List.mem_singleton.2 rfl
  have hP := alw_parts hA
  rw [parts_iff] at hP
  obtain ⟨β, hC⟩ := hP
  obtain ⟨c, hc⟩ := List.getElem?_of_mem hm
  have hp := List.mem_of_getElem? (chS_get _ β c m hc)
  unfold mtB at hmB
  simp only [Bool.and_eq_true, beq_iff_eq] at hmB
  obtain ⟨⟨⟨m1, m2⟩, m3⟩, m4⟩ := hmB
  refine hC ?_
  cases hβ : β c
  · rw [hβ] at hp
    have hp' : (((b + 1 + pt.length : Nat) : Int), ((2 : Nat) : Int)) ∈ chS β (mtL (thoL 2 E 0) (thoL 3 E 0) (thoL 4 E 0)) := by
      have e : pick false m = (((b + 1 + pt.length : Nat) : Int), ((2 : Nat) : Int)) := by unfold pick; rw [m2, m4]; rfl
      rw [← e]; exact hp
    exact cyc4 (a := 2) (b := 3) (c := b + 1 + j) (d := b + 1 + pt.length) (by omega) (by omega) (by omega) hbl (List.mem_append_left _ (kep_mem h23 (by omega) (by omega))) (List.mem_append_left _ az) (List.mem_append_left _ (kep_mem kj (by omega) hbl)) (List.mem_append_right _ hp')
  · rw [hβ] at hp
    have hp' : (((1 : Nat) : Int), (b : Int)) ∈ chS β (mtL (thoL 2 E 0) (thoL 3 E 0) (thoL 4 E 0)) := by
      have e : pick true m = (((1 : Nat) : Int), (b : Int)) := by unfold pick; rw [m1, m3]; rfl
      rw [← e]; exact hp
    exact cyc4 (a := 1) (b := b) (c := b + 1 + i) (d := 0) (by omega) (by omega) (by omega) (by omega) (List.mem_append_right _ hp') (List.mem_append_left _ (kep_mem ki (by omega) (by omega))) (List.mem_append_left _ ay) (List.mem_append_left _ (kep_mem h01 (by omega) (by omega)))

end Go.Proofs.Ytomijmikkbhgmab

namespace Go.Proofs.Ytomijmikkbhgmab

def lamL (k m l : Int) : Int := if l == k then m else if l == m then k else l
theorem lamL_inv (k m l : Int) : lamL k m (lamL k m l) = l := by
  unfold lamL
  by_cases h1 : l = k
  · subst h1
    by_cases h2 : m = l
    · subst h2; simp
    · simp [h2]
  · by_cases h2 : l = m
    · subst h2
      simp [h1]
    · simp [h1, h2]
theorem lamL_inj {k m a b : Int} (h : lamL k m a = lamL k m b) : a = b := by rw [← lamL_inv k m a, h, lamL_inv]

def swI (k m : Int) (x : Ins) : Ins := if 0 ≤ x.op ∧ x.op ≤ 3 then { x with loc := lamL k m x.loc } else x
theorem swI_op (k m : Int) (x : Ins) : (swI k m x).op = x.op := by unfold swI; split <;> rfl
theorem swI_reg (k m : Int) (x : Ins) : (swI k m x).reg = x.reg := by unfold swI; split <;> rfl
theorem swI_val (k m : Int) (x : Ins) : (swI k m x).val = x.val := by unfold swI; split <;> rfl
theorem swI_mode (k m : Int) (x : Ins) : (swI k m x).mode = x.mode := by unfold swI; split <;> rfl
theorem swI_loc {k m : Int} {x : Ins} (h : 0 ≤ x.op ∧ x.op ≤ 3) : (swI k m x).loc = lamL k m x.loc := by unfold swI; rw [if_pos h]
theorem swI_inv (k m : Int) (x : Ins) : swI k m (swI k m x) = x := by
  by_cases h : 0 ≤ x.op ∧ x.op ≤ 3
  · have h1 : swI k m x = { x with loc := lamL k m x.loc } := by unfold swI; rw [if_pos h]
    rw [h1]
    unfold swI
    rw [if_pos h]
    simp only [lamL_inv]
  · have h1 : swI k m x = x := by unfold swI; rw [if_neg h]
    rw [h1, h1]
theorem sw_inv (k m : Int) (l : List Ins) : (l.map (swI k m)).map (swI k m) = l := by
  rw [List.map_map]
  conv => rhs; rw [← List.map_id l]
  refine List.map_congr_left fun x _ => ?_
  exact swI_inv k m x

/-- A test whose threads and locations have changed places. -/
structure Ren (T T' : List (List Ins)) (σ : Nat → Nat) (k m : Int) : Prop where
  len : T'.length = T.length
  inv : ∀ a, a < T.length → σ a < T.length ∧ σ (σ a) = a
  row : ∀ (a : Nat) (l : List Ins), T[a]? = some l → T'[σ a]? = some (l.map (swI k m))

theorem Ren.symm {T T' : List (List Ins)} {σ : Nat → Nat} {k m : Int} (h : Ren T T' σ k m) : Ren T' T σ k m := by
  refine ⟨h.len.symm, fun a ha => by rw [h.len] at ha ⊢; exact h.inv a ha, fun a l hl => ?_⟩
  have ha : a < T.length := by rw [← h.len]; exact (List.getElem?_eq_some_iff.1 hl).1
  obtain ⟨h1, h2⟩ := h.inv a ha
  obtain ⟨l0, hl0⟩ := get_of_lt h1
  have := h.row (σ a) l0 hl0
  rw [h2, hl] at this
  cases this
  rw [sw_inv]
  exact hl0

/-- Where a thread's events begin. -/
def offT (T : List (List Ins)) (a : Nat) : Nat := (evsT (T.take a) 0).length

theorem evsT_cut {T : List (List Ins)} {a : Nat} {l : List Ins} (h : T[a]? = some l) (o : Nat) : evsT T o = evsT (T.take a) o ++ (evsI (o + a) l 0 ++ evsT (T.drop (a + 1)) (o + a + 1)) := by
  induction a generalizing T o with
  | zero =>
    cases T with
    | nil => simp at h
    | cons x T => simp at h; subst h; rfl
  | succ a ih =>
    cases T with
    | nil => simp at h
    | cons x T =>
      have := ih (T := T) (by simpa using h) (o + 1)
      rw [List.take_succ_cons, List.drop_succ_cons, evsT, evsT, this, List.append_assoc, show o + 1 + a = o + (a + 1) by omega]

theorem ev_at {T : List (List Ins)} {a r : Nat} {l : List Ins} {y : Evt} (h : T[a]? = some l) (hr : (evsI a l 0)[r]? = some y) : (evsT T 0)[offT T a + r]? = some y := by
  have hlt := (List.getElem?_eq_some_iff.1 hr).1
  rw [evsT_cut h 0, Nat.zero_add, List.getElem?_append_right (by unfold offT; omega)]
  unfold offT
  rw [Nat.add_sub_cancel_left, List.getElem?_append_left hlt]
  exact hr

theorem evsI_thread {i : Nat} {l : List Ins} {j : Nat} {y : Evt} (h : y ∈ evsI i l j) : y.thread = (i : Int) := by
  induction l generalizing j with
  | nil => cases h
  | cons x l ih =>
    rcases List.mem_append.1 h with h | h
    · unfold evsK at h
      obtain ⟨q, _, rfl⟩ := List.mem_map.1 h
      rfl
    · exact ih h

theorem ev_find0 {T : List (List Ins)} {o e : Nat} {y : Evt} (h : (evsT T o)[e]? = some y) : ∃ (a : Nat) (l : List Ins) (r : Nat), T[a]? = some l ∧ (evsI (o + a) l 0)[r]? = some y ∧ e = (evsT (T.take a) o).length + r := by
  induction T generalizing o e with
  | nil => simp [evsT] at h
  | cons x T ih =>
    rw [evsT] at h
    by_cases he : e < (evsI o x 0).length
    · rw [List.getElem?_append_left he] at h
      exact ⟨0, x, e, rfl, h, by simp [evsT]⟩
    · rw [List.getElem?_append_right (by omega)] at h
      obtain ⟨a, l, r, h1, h2, h3⟩ := ih h
      refine ⟨a + 1, l, r, by simpa using h1, by rw [show o + (a + 1) = o + 1 + a by omega]; exact h2, ?_⟩
      rw [List.take_succ_cons, evsT, List.length_append]
      omega

theorem ev_find {T : List (List Ins)} {e : Nat} {y : Evt} (h : (evsT T 0)[e]? = some y) : ∃ (a : Nat) (l : List Ins) (r : Nat), T[a]? = some l ∧ (evsI a l 0)[r]? = some y ∧ e = offT T a + r ∧ y.thread = (a : Int) := by
  obtain ⟨a, l, r, h1, h2, h3⟩ := ev_find0 h
  rw [Nat.zero_add] at h2
  exact ⟨a, l, r, h1, h2, h3, evsI_thread (List.mem_of_getElem? h2)⟩

/-- An event, in another thread and with locations changed about. -/
def trE (k m : Int) (a : Nat) (y : Evt) : Evt := ⟨(a : Int), y.place, y.kind, (swI k m y.ins).loc, swI k m y.ins⟩

theorem evsI_tr (k m : Int) (a b : Nat) (l : List Ins) (j : Nat) : evsI a (l.map (swI k m)) j = (evsI b l j).map (trE k m a) := by
  induction l generalizing j with
  | nil => rfl
  | cons x l ih =>
    rw [List.map_cons, evsI, evsI, List.map_append, ih, swI_op]
    congr 1
    unfold evsK
    rw [List.map_map]
    rfl

def piE (T T' : List (List Ins)) (σ : Nat → Nat) (e : Nat) : Nat := match (evsT T 0)[e]? with
  | none => e
  | some y => offT T' (σ y.thread.toNat) + (e - offT T y.thread.toNat)

theorem piE_at {T T' : List (List Ins)} {σ : Nat → Nat} {a r : Nat} {l : List Ins} {y : Evt} (h : T[a]? = some l) (hr : (evsI a l 0)[r]? = some y) : piE T T' σ (offT T a + r) = offT T' (σ a) + r := by
  unfold piE
  rw [ev_at h hr]
  simp only [evsI_thread (List.mem_of_getElem? hr), Int.toNat_natCast]
  omega

theorem ren_ev {T T' : List (List Ins)} {σ : Nat → Nat} {k m : Int} (hR : Ren T T' σ k m) {e : Nat} {y : Evt} (h : (evsT T 0)[e]? = some y) : (evsT T' 0)[piE T T' σ e]? = some (trE k m (σ y.thread.toNat) y) := by
  obtain ⟨a, l, r, h1, h2, rfl, h4⟩ := ev_find h
  rw [piE_at h1 h2, h4, Int.toNat_natCast]
  refine ev_at (hR.row a l h1) ?_
  rw [evsI_tr k m (σ a) a, List.getElem?_map, h2]
  rfl

theorem piE_lt {T T' : List (List Ins)} {σ : Nat → Nat} {k m : Int} (hR : Ren T T' σ k m) {e : Nat} (h : e < (evsT T 0).length) : piE T T' σ e < (evsT T' 0).length := by
  obtain ⟨y, hy⟩ := get_of_lt h
  exact (List.getElem?_eq_some_iff.1 (ren_ev hR hy)).1

theorem piE_inv {T T' : List (List Ins)} {σ : Nat → Nat} {k m : Int} (hR : Ren T T' σ k m) {e : Nat} (h : e < (evsT T 0).length) : piE T' T σ (piE T T' σ e) = e := by
  obtain ⟨y, hy⟩ := get_of_lt h
  obtain ⟨a, l, r, h1, h2, rfl, h4⟩ := ev_find hy
  rw [piE_at h1 h2]
  have h3 : (evsI (σ a) (l.map (swI k m)) 0)[r]? = some (trE k m (σ a) y) := by
    rw [evsI_tr k m (σ a) a, List.getElem?_map, h2]
    rfl
  rw [piE_at (hR.row a l h1) h3, (hR.inv a (List.getElem?_eq_some_iff.1 h1).1).2]

theorem piE_inj {T T' : List (List Ins)} {σ : Nat → Nat} {k m : Int} (hR : Ren T T' σ k m) {a b : Nat} (ha : a < (evsT T 0).length) (hb : b < (evsT T 0).length) (h : piE T T' σ a = piE T T' σ b) : a = b := by
  rw [← piE_inv hR ha, h, piE_inv hR hb]

theorem nodup_map_on {α β : Type} {f : α → β} {l : List α} (h : ∀ a ∈ l, ∀ b ∈ l, f a = f b → a = b) (hn : l.Nodup) : (l.map f).Nodup := by
  induction l with
  | nil => exact List.nodup_nil
  | cons a l ih =>
    obtain ⟨h1, h2⟩ := List.nodup_cons.1 hn
    rw [List.map_cons, List.nodup_cons]
    refine ⟨fun hm => ?_, ih (fun x hx y hy => h x (List.mem_cons_of_mem _ hx) y (List.mem_cons_of_mem _ hy)) h2⟩
    obtain ⟨b, hb, e⟩ := List.mem_map.1 hm
    have := h b (List.mem_cons_of_mem _ hb) a (List.mem_cons_self ..) e
    exact h1 (this ▸ hb)

theorem ren_le {T T' : List (List Ins)} {σ : Nat → Nat} {k m : Int} (hR : Ren T T' σ k m) : (evsT T 0).length ≤ (evsT T' 0).length := by
  have := nodup_le (l := (List.range (evsT T 0).length).map fun e => ((piE T T' σ e : Nat) : Int)) (m := (List.range (evsT T' 0).length).map fun e => ((e : Nat) : Int)) ?_ ?_
  · simpa using this
  · refine nodup_map_on ?_ List.nodup_range
    intro a ha b hb e
    exact piE_inj hR (List.mem_range.1 ha) (List.mem_range.1 hb) (by omega)
  · intro x hx
    obtain ⟨e, he, rfl⟩ := List.mem_map.1 hx
    exact List.mem_map.2 ⟨_, List.mem_range.2 (piE_lt hR (List.mem_range.1 he)), rfl⟩
theorem ren_len {T T' : List (List Ins)} {σ : Nat → Nat} {k m : Int} (hR : Ren T T' σ k m) : (evsT T' 0).length = (evsT T 0).length := Nat.le_antisymm (ren_le hR.symm) (ren_le hR)

theorem piE_mono {T T' : List (List Ins)} {σ : Nat → Nat} {a b : Nat} {ya yb : Evt} (ha : (evsT T 0)[a]? = some ya) (hb : (evsT T 0)[b]? = some yb) (ht : ya.thread = yb.thread) (h : a < b) : piE T T' σ a < piE T T' σ b := by
  obtain ⟨i, l, r, h1, h2, rfl, h4⟩ := ev_find ha
  obtain ⟨i', l', r', h1', h2', rfl, h4'⟩ := ev_find hb
  have : i = i' := by rw [h4, h4'] at ht; omega
  subst this
  rw [piE_at h1 h2, piE_at h1' h2']
  omega

end Go.Proofs.Ytomijmikkbhgmab

namespace Go.Proofs.Ytomijmikkbhgmab

structure Mo where
  pc : Nat → Nat
  wt : Nat → Nat → Bool
  rg : Nat → Nat → Int
  lc : Nat → Int

def upd {α : Type} (f : Nat → α) (i : Nat) (v : α) : Nat → α := fun j => if j = i then v else f j
theorem upd_self {α : Type} (f : Nat → α) (i : Nat) (v : α) : upd f i v i = v := by unfold upd; rw [if_pos rfl]
theorem upd_ne {α : Type} (f : Nat → α) {i j : Nat} (v : α) (h : j ≠ i) : upd f i v j = f j := by unfold upd; rw [if_neg h]

/-- Is a thread in a section, so many half steps on? -/
def insd : List Ins → Bool → Nat → Bool
  | [], b, _ => b
  | x :: l, b, q => if q = 0 then b else insd l (if x.op == 5 then true else if x.op == 6 then false else b) (q - 2)

def inK (T : List (List Ins)) (M : Mo) (k : Nat) : Bool := match T[k]? with
  | none => false
  | some l => insd l false (M.pc k)

/-- What an instruction that is no Sync does. -/
def doMo (M : Mo) (i : Nat) (x : Ins) : Mo :=
  if x.op == 0 then { M with lc := upd M.lc x.loc.toNat x.val }
  else if x.op == 1 then { M with lc := upd M.lc x.loc.toNat (M.rg i x.reg.toNat) }
  else if x.op == 2 then { M with rg := upd M.rg i (upd (M.rg i) x.reg.toNat (M.lc x.loc.toNat)) }
  else if x.op == 3 then { M with rg := upd M.rg i (upd (M.rg i) x.reg.toNat (M.lc x.loc.toNat)), lc := upd M.lc x.loc.toNat x.val }
  else if x.op == 6 then { M with wt := fun k j => if j = i then false else M.wt k j }
  else M
theorem doMo_pc (M : Mo) (i : Nat) (x : Ins) : (doMo M i x).pc = M.pc := by
  unfold doMo
  repeat' split
  all_goals rfl

def stepMo (T : List (List Ins)) (M : Mo) (i : Nat) : Option Mo := match T[i]? with
  | none => none
  | some l => match l[M.pc i / 2]? with
    | none => none
    | some x =>
      if x.op == 7 then
        if M.pc i % 2 == 1 then (if (List.range T.length).any (M.wt i) then none else some { M with pc := upd M.pc i (M.pc i + 1) })
        else some { M with pc := upd M.pc i (M.pc i + 1), wt := upd M.wt i fun k => M.wt i k || inK T M k }
      else some { doMo M i x with pc := upd M.pc i (M.pc i + 2) }

def moZ : Mo := ⟨fun _ => 0, fun _ _ => false, fun _ _ => 0, fun _ => 0⟩

/-- How many events of a thread there have been, so many half steps on. -/
def evc (l : List Ins) (q : Nat) : Nat := (evsI 0 (l.take (q / 2)) 0).length + q % 2

theorem evsI_len0 (a b : Nat) (l : List Ins) (j j' : Nat) : (evsI a l j).length = (evsI b l j').length := by
  induction l generalizing j j' with
  | nil => rfl
  | cons x l ih => rw [evsI, evsI, List.length_append, List.length_append, ih (j + 1) (j' + 1)]; unfold evsK; rw [List.length_map, List.length_map]

theorem evsI_cut {i : Nat} {l : List Ins} {p : Nat} {x : Ins} (h : l[p]? = some x) (j : Nat) : evsI i l j = evsI i (l.take p) j ++ (evsK i (j + p) x (kindsOf x.op) ++ evsI i (l.drop (p + 1)) (j + p + 1)) := by
  induction p generalizing l j with
  | zero =>
    cases l with
    | nil => simp at h
    | cons y l => simp at h; subst h; rfl
  | succ p ih =>
    cases l with
    | nil => simp at h
    | cons y l =>
      have := ih (l := l) (by simpa using h) (j + 1)
      rw [List.take_succ_cons, List.drop_succ_cons, evsI, evsI, this, List.append_assoc, show j + 1 + p = j + (p + 1) by omega]

theorem evc_next {l : List Ins} {q : Nat} {x : Ins} (h : l[q / 2]? = some x) (hq : q % 2 = 0) : evc l (q + 2) = evc l q + (kindsOf x.op).length := by
  unfold evc
  rw [show (q + 2) / 2 = q / 2 + 1 by omega, show (q + 2) % 2 = 0 by omega, hq, take_snoc h]
  have e : ∀ (l : List Ins) (y : Ins) (j : Nat), (evsI 0 (l ++ [y]) j).length = (evsI 0 l j).length + (kindsOf y.op).length := by
    intro l
    induction l with
    | nil => intro y j; simp [evsI, evsK]
    | cons z l ih => intro y j; rw [List.cons_append, evsI, evsI, List.length_append, List.length_append, ih]; omega
  rw [e]
  omega
theorem evc_half {l : List Ins} {q : Nat} (hq : q % 2 = 0) : evc l (q + 1) = evc l q + 1 := by
  unfold evc
  rw [show (q + 1) / 2 = q / 2 by omega, show (q + 1) % 2 = 1 by omega, hq]
theorem evc_full {l : List Ins} {q : Nat} {x : Ins} (h : l[q / 2]? = some x) (hx : x.op = 7) (hq : q % 2 = 1) : evc l (q + 1) = evc l q + 1 := by
  have h1 := evc_next (l := l) (q := q - 1) (x := x) (by rw [show (q - 1) / 2 = q / 2 by omega]; exact h) (by omega)
  have h2 := evc_half (l := l) (q := q - 1) (by omega)
  rw [show q - 1 + 2 = q + 1 by omega] at h1
  rw [show q - 1 + 1 = q by omega] at h2
  rw [h1, h2, hx]
  rfl

/-- The events of an instruction. -/
theorem ev_ins {i : Nat} {l : List Ins} {p t : Nat} {x : Ins} {kd : Int} (h : l[p]? = some x) (hk : (kindsOf x.op)[t]? = some kd) : (evsI i l 0)[(evsI 0 (l.take p) 0).length + t]? = some ⟨(i : Int), (p : Int), kd, x.loc, x⟩ := by
  have hlt := (List.getElem?_eq_some_iff.1 hk).1
  have hl : (evsI 0 (l.take p) 0).length = (evsI i (l.take p) 0).length := evsI_len0 _ _ _ _ _
  rw [evsI_cut h 0, hl, List.getElem?_append_right (by omega), Nat.add_sub_cancel_left, List.getElem?_append_left (by unfold evsK; rw [List.length_map]; exact hlt)]
  unfold evsK
  rw [List.getElem?_map, hk, Nat.zero_add]
  rfl

/-- A run: the row of its events, and where it has come. -/
inductive Run (T : List (List Ins)) : List Nat → Mo → Prop where
  | start : Run T [] moZ
  | step (R : List Nat) (M M' : Mo) (i : Nat) (l : List Ins) : Run T R M → T[i]? = some l → stepMo T M i = some M' → Run T (R ++ List.range' (offT T i + evc l (M.pc i)) (evc l (M'.pc i) - evc l (M.pc i))) M'

/-- The three kinds of steps. -/
inductive StepK (T : List (List Ins)) (M : Mo) (i : Nat) (l : List Ins) (x : Ins) (M' : Mo) : Prop where
  | begin (h7 : x.op = 7) (hq : M.pc i % 2 = 0) (hM : M' = { M with pc := upd M.pc i (M.pc i + 1), wt := upd M.wt i fun k => M.wt i k || inK T M k })
  | finish (h7 : x.op = 7) (hq : M.pc i % 2 = 1) (hw : ∀ k, k < T.length → M.wt i k = false) (hM : M' = { M with pc := upd M.pc i (M.pc i + 1) })
  | other (h7 : x.op ≠ 7) (hM : M' = { doMo M i x with pc := upd M.pc i (M.pc i + 2) })

theorem step_kind {T : List (List Ins)} {M M' : Mo} {i : Nat} {l : List Ins} (hl : T[i]? = some l) (h : stepMo T M i = some M') : ∃ x, l[M.pc i / 2]? = some x ∧ StepK T M i l x M' := by
  unfold stepMo at h
  rw [hl] at h
  cases hx : l[M.pc i / 2]? with
  | none => simp only [hx] at h; cases h
  | some x =>
    simp only [hx] at h
    refine ⟨x, rfl, ?_⟩
    by_cases h7 : x.op = 7
    · rw [if_pos (by simp [h7])] at h
      by_cases hq : M.pc i % 2 = 1
      · rw [if_pos (by simp [hq])] at h
        split at h
        · cases h
        · rename_i hw
          refine .finish h7 hq (fun k hk => ?_) (Option.some.inj h).symm
          cases hwk : M.wt i k
          · rfl
          · exact absurd (List.any_eq_true.2 ⟨k, List.mem_range.2 hk, hwk⟩) hw
      · rw [if_neg (by simp [hq])] at h
        exact .begin h7 (by omega) (Option.some.inj h).symm
    · rw [if_neg (by simp [h7])] at h
      exact .other h7 (Option.some.inj h).symm

/-- Where the threads stand. -/
structure Pcs (T : List (List Ins)) (M : Mo) : Prop where
  le : ∀ i l, T[i]? = some l → M.pc i ≤ 2 * l.length
  odd : ∀ i l, T[i]? = some l → M.pc i % 2 = 1 → ∃ x, l[M.pc i / 2]? = some x ∧ x.op = 7

theorem Pcs.step {T : List (List Ins)} {M M' : Mo} {i : Nat} {l : List Ins} {x : Ins} (h : Pcs T M) (hl : T[i]? = some l) (hx : l[M.pc i / 2]? = some x) (hk : StepK T M i l x M') : Pcs T M' := by
  have hlen := (List.getElem?_eq_some_iff.1 hx).1
  have key : ∀ q, M'.pc = upd M.pc i q → q ≤ 2 * l.length → (q % 2 = 1 → ∃ x, l[q / 2]? = some x ∧ x.op = 7) → Pcs T M' := fun q e h1 h2 => by
    refine ⟨fun j lj hj => ?_, fun j lj hj => ?_⟩
    · rw [e]
      by_cases hji : j = i
      · subst hji
        rw [hl] at hj
        cases hj
        rw [upd_self]
        exact h1
      · rw [upd_ne _ _ hji]
        exact h.le j lj hj
    · rw [e]
      by_cases hji : j = i
      · subst hji
        rw [hl] at hj
        cases hj
        rw [upd_self]
        exact h2
      · rw [upd_ne _ _ hji]
        exact h.odd j lj hj
  cases hk with
  | begin h7 hq hM =>
    refine key (M.pc i + 1) (by rw [hM]) (by omega) (fun _ => ⟨x, by rw [show (M.pc i + 1) / 2 = M.pc i / 2 by omega]; exact hx, h7⟩)
  | finish h7 hq _ hM => exact key (M.pc i + 1) (by rw [hM]) (by omega) (fun _ => by omega)
  | other h7 hM =>
    have hq : M.pc i % 2 = 0 := by
      by_cases hq : M.pc i % 2 = 1
      · obtain ⟨z, hz, hz7⟩ := h.odd i l hl hq
        rw [hx] at hz
        cases hz
        exact absurd hz7 h7
      · omega
    exact key (M.pc i + 2) (by rw [hM]) (by omega) (fun _ => by omega)

/-- What a step adds to the row: between so many and so many of the thread's events. -/
theorem step_evc {T : List (List Ins)} {M M' : Mo} {i : Nat} {l : List Ins} {x : Ins} (h : Pcs T M) (hl : T[i]? = some l) (hx : l[M.pc i / 2]? = some x) (hk : StepK T M i l x M') : M'.pc = upd M.pc i (M'.pc i) ∧ evc l (M'.pc i) = evc l (M.pc i) + (if x.op = 7 then 1 else (kindsOf x.op).length) ∧ (x.op ≠ 7 → M.pc i % 2 = 0) := by
  cases hk with
  | begin h7 hq hM => subst hM; refine ⟨by simp [upd_self], ?_, fun h => absurd h7 h⟩; rw [if_pos h7]; simp only [upd_self]; exact evc_half hq
  | finish h7 hq _ hM => subst hM; refine ⟨by simp [upd_self], ?_, fun h => absurd h7 h⟩; rw [if_pos h7]; simp only [upd_self]; exact evc_full hx h7 hq
  | other h7 hM =>
    have hq : M.pc i % 2 = 0 := by
      by_cases hq : M.pc i % 2 = 1
      · obtain ⟨z, hz, hz7⟩ := h.odd i l hl hq
        rw [hx] at hz
        cases hz
        exact absurd hz7 h7
      · omega
    subst hM
    refine ⟨by simp [upd_self], ?_, fun _ => hq⟩
    rw [if_neg h7]
    simp only [upd_self]
    exact evc_next hx hq

end Go.Proofs.Ytomijmikkbhgmab
