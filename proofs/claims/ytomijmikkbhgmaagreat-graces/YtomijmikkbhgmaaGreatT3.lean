import Derived.Test.YtomijmikkbhgmaaGreatT2
import Derived.Test.YtomijmikkbhgmaaGreatT1
import Derived.Deep.Light
namespace Go.Proofs.YtomijmikkbhgmaaGreat

/-! writes of a location -/
theorem wrs_mem {E : List Evt} {k : Nat} {loc w : Int} (h : w ∈ wrs E k loc) : ∃ i x, E[i]? = some x ∧ w = ((k + i : Nat) : Int) ∧ x.kind = 1 ∧ x.loc = loc := by
  induction E generalizing k with
  | nil => simp [wrs] at h
  | cons y E ih =>
    have key : w ∈ wrs E (k + 1) loc → ∃ i x, (y :: E)[i]? = some x ∧ w = ((k + i : Nat) : Int) ∧ x.kind = 1 ∧ x.loc = loc := by
      intro hw
      obtain ⟨i, x, h1, h2, h3⟩ := ih hw
      exact ⟨i + 1, x, by simpa using h1, by rw [h2]; congr 1; omega, h3⟩
    unfold wrs at h
    split at h
    · rename_i hc
      rcases List.mem_cons.1 h with rfl | h
      · simp only [Bool.and_eq_true, beq_iff_eq] at hc
        exact ⟨0, y, rfl, rfl, hc.1, hc.2⟩
      · exact key h
    · exact key h

theorem wrs_sorted (E : List Evt) (k : Nat) (loc : Int) : (wrs E k loc).Pairwise (· < ·) := by
  induction E generalizing k with
  | nil => simp [wrs]
  | cons y E ih =>
    unfold wrs
    split
    · refine List.pairwise_cons.2 ⟨fun w hw => ?_, ih (k + 1)⟩
      obtain ⟨i, x, _, h2, _⟩ := wrs_mem hw
      omega
    · exact ih (k + 1)

/-- How often an event stands in the list of a location's writes. -/
theorem wrs_count {E : List Evt} {k i : Nat} {loc : Int} {x : Evt} (h : E[i]? = some x) : (wrs E k loc).count ((k + i : Nat) : Int) = if x.kind == 1 && x.loc == loc then 1 else 0 := by
  induction E generalizing k i with
  | nil => simp at h
  | cons y E ih =>
    cases i with
    | zero =>
      simp at h
      subst h
      have h0 : (wrs E (k + 1) loc).count ((k + 0 : Nat) : Int) = 0 := by
        refine List.count_eq_zero.2 fun hm => ?_
        obtain ⟨j, z, _, h2, _⟩ := wrs_mem hm
        omega
      unfold wrs
      split
      · rw [List.count_cons, h0]; simp
      · exact h0
    | succ i =>
      have h1 := ih (k := k + 1) (i := i) (by simpa using h)
      rw [show k + 1 + i = k + (i + 1) by omega] at h1
      unfold wrs
      split
      · rw [List.count_cons, h1, if_neg (show ¬ ((k : Int) == ((k + (i + 1) : Nat) : Int)) = true by simp; omega), Nat.add_zero]
      · exact h1

/-! the tally -/
def isW (x : Ins) : Bool := x.op == 0 || x.op == 1 || x.op == 3
def isR (x : Ins) : Bool := x.op == 2 || x.op == 3
def cwL (j : Int) (l : List Ins) : Nat := (l.filter fun x => isW x && x.loc == j).length
def crL (j : Int) (l : List Ins) : Nat := (l.filter fun x => isR x && x.loc == j).length
def cw (j : Int) : List (List Ins) → Nat
  | [] => 0
  | l :: T => cwL j l + cw j T
def cr (j : Int) : List (List Ins) → Nat
  | [] => 0
  | l :: T => crL j l + cr j T

def cE (k j : Int) (E : List Evt) : Nat := (E.filter fun x => x.kind == k && x.loc == j).length

theorem cE_append (k j : Int) (A B : List Evt) : cE k j (A ++ B) = cE k j A + cE k j B := by unfold cE; rw [List.filter_append, List.length_append]

theorem wrs_cE (E : List Evt) (k : Nat) (j : Int) : (wrs E k j).length = cE 1 j E := by
  induction E generalizing k with
  | nil => rfl
  | cons x E ih =>
    unfold wrs cE
    rw [List.filter_cons]
    split
    · rw [List.length_cons, List.length_cons, ih]; rfl
    · rw [ih]; rfl

theorem cE_kinds (i p : Nat) (x : Ins) (k j : Int) : cE k j (evsK i p x (kindsOf x.op)) = if x.loc == j then ((kindsOf x.op).filter fun q => q == k).length else 0 := by
  unfold cE evsK
  rw [List.filter_map, List.length_map]
  cases h : x.loc == j
  · simp [Function.comp_def, h]
  · simp [Function.comp_def, h]

theorem kinds_w (x : Ins) : ((kindsOf x.op).filter fun q => q == 1).length = if isW x then 1 else 0 := by
  unfold kindsOf isW
  repeat' split
  all_goals simp_all

theorem kinds_r (x : Ins) : ((kindsOf x.op).filter fun q => q == 0).length = if isR x then 1 else 0 := by
  unfold kindsOf isR
  repeat' split
  all_goals first
    | (simp_all; done)
    | (simp_all; omega)

theorem cE_evsI_w (i : Nat) (l : List Ins) (p : Nat) (j : Int) : cE 1 j (evsI i l p) = cwL j l := by
  induction l generalizing p with
  | nil => rfl
  | cons x l ih =>
    rw [evsI, cE_append, ih, cE_kinds, kinds_w]
    unfold cwL
    rw [List.filter_cons]
    cases isW x <;> cases x.loc == j <;> simp <;> omega

theorem cE_evsI_r (i : Nat) (l : List Ins) (p : Nat) (j : Int) : cE 0 j (evsI i l p) = crL j l := by
  induction l generalizing p with
  | nil => rfl
  | cons x l ih =>
    rw [evsI, cE_append, ih, cE_kinds, kinds_r]
    unfold crL
    rw [List.filter_cons]
    cases isR x <;> cases x.loc == j <;> simp <;> omega

theorem cE_evsT_w (T : List (List Ins)) (i : Nat) (j : Int) : cE 1 j (evsT T i) = cw j T := by
  induction T generalizing i with
  | nil => rfl
  | cons l T ih => rw [evsT, cE_append, cE_evsI_w, ih]; rfl

theorem cE_evsT_r (T : List (List Ins)) (i : Nat) (j : Int) : cE 0 j (evsT T i) = cr j T := by
  induction T generalizing i with
  | nil => rfl
  | cons l T ih => rw [evsT, cE_append, cE_evsI_r, ih]; rfl

/-! how many -/
def remL : List (Nat × Nat) → Nat
  | [] => 1
  | (w, r) :: l => (w + 1) ^ r * (fac w * remL l)

theorem remL_pos (l : List (Nat × Nat)) : 1 ≤ remL l := by
  induction l with
  | nil => exact Nat.le_refl 1
  | cons p l ih => exact Nat.mul_le_mul (Nat.pow_pos (by omega)) (Nat.mul_le_mul (fac_pos _) ih)

def tly (T : List (List Ins)) : List (Nat × Nat) := [(cw 0 T, cr 0 T), (cw 1 T, cr 1 T), (cw 2 T, cr 2 T)]

theorem prodR_pow (E R : List Evt) (h : ∀ x ∈ R, locB x.loc = true) : prodR E R = ((wrs E 0 0).length + 1) ^ cE 0 0 R * (((wrs E 0 1).length + 1) ^ cE 0 1 R * ((wrs E 0 2).length + 1) ^ cE 0 2 R) := by
  induction R with
  | nil => simp [prodR, cE]
  | cons x R ih =>
    have hx := h x (List.mem_cons_self ..)
    have ih := ih (fun y hy => h y (List.mem_cons_of_mem _ hy))
    unfold prodR
    unfold cE at ih ⊢
    rw [List.filter_cons, List.filter_cons, List.filter_cons]
    cases hk : x.kind == 0
    · simpa using ih
    · unfold locB at hx
      simp only [Bool.and_eq_true, decide_eq_true_eq] at hx
      have h3 : x.loc = 0 ∨ x.loc = 1 ∨ x.loc = 2 := by omega
      rw [ih]
      generalize hA : (wrs E 0 0).length = A at *
      generalize hB : (wrs E 0 1).length = B at *
      generalize hC : (wrs E 0 2).length = C at *
      rcases h3 with e | e | e
      · simp [e, hA, Nat.pow_succ]; rw [Nat.add_comm 1 A]; ac_rfl
      · simp [e, hB, Nat.pow_succ]; rw [Nat.add_comm 1 B]; ac_rfl
      · simp [e, hC, Nat.pow_succ]; rw [Nat.add_comm 1 C]; ac_rfl

theorem sizeN_remL (T : List (List Ins)) (h : ∀ x ∈ evsT T 0, locB x.loc = true) : sizeN (evsT T 0) = remL (tly T) := by
  unfold sizeN tly remL remL remL remL
  rw [prodR_pow _ _ h, wrs_cE, wrs_cE, wrs_cE, cE_evsT_w, cE_evsT_w, cE_evsT_w, cE_evsT_r, cE_evsT_r, cE_evsT_r, Nat.mul_one]
  ac_rfl

/-! what Check says of locations -/
theorem mayB_loc {x : Ins} (h : mayB x = true) : locB x.loc = true := by
  unfold mayB at h
  have h0 : (x.loc == 0) = true → locB x.loc = true := by intro e; have : x.loc = 0 := by simpa using e
                                                          rw [this]; rfl
  repeat' split at h
  all_goals first
    | (simp only [Bool.and_eq_true] at h; exact h.1.1.1)
    | (simp only [Bool.and_eq_true] at h; exact h0 h.1.1.1)
    | simp at h

theorem badAt_none {l : List Ins} {j : Nat} (h : badAt l j = none) : ∀ x ∈ l, mayB x = true := by
  induction l generalizing j with
  | nil => simp
  | cons y l ih =>
    cases hy : mayB y
    · rw [badAt_bad hy] at h; cases h
    · rw [badAt_ok hy] at h
      intro x hx
      rcases List.mem_cons.1 hx with rfl | hx
      · exact hy
      · exact ih h x hx

theorem insF_none {T : List (List Ins)} {i : Nat} (h : insF T i = none) : ∀ l ∈ T, ∀ x ∈ l, locB x.loc = true := by
  induction T generalizing i with
  | nil => simp
  | cons l T ih =>
    cases hb : badAt l 0 with
    | some j => rw [insF_bad hb] at h; cases h
    | none =>
      rw [insF_ok hb] at h
      intro m hm x hx
      rcases List.mem_cons.1 hm with rfl | hm
      · exact mayB_loc (badAt_none hb x hx)
      · exact ih h m hm x hx

theorem chk_locs {T : List (List Ins)} {c : List Atm} (h : ((chk T c).1 == 0) = true) : ∀ l ∈ T, ∀ x ∈ l, locB x.loc = true := by
  unfold chk at h
  cases hs : sizeB T c
  · rw [hs] at h; simp at h
  · rw [hs] at h
    cases hi : insF T 0 with
    | none => exact insF_none hi
    | some p => rw [hi] at h; simp at h

theorem evsI_locs {i : Nat} {l : List Ins} {p : Nat} (h : ∀ x ∈ l, locB x.loc = true) : ∀ x ∈ evsI i l p, locB x.loc = true := by
  induction l generalizing p with
  | nil => simp [evsI]
  | cons y l ih =>
    intro x hx
    rw [evsI] at hx
    rcases List.mem_append.1 hx with hx | hx
    · obtain ⟨k, _, rfl⟩ := List.mem_map.1 hx
      exact h y (List.mem_cons_self ..)
    · exact ih (fun z hz => h z (List.mem_cons_of_mem _ hz)) x hx

theorem evsT_locs {T : List (List Ins)} {i : Nat} (h : ∀ l ∈ T, ∀ x ∈ l, locB x.loc = true) : ∀ x ∈ evsT T i, locB x.loc = true := by
  induction T generalizing i with
  | nil => simp [evsT]
  | cons l T ih =>
    intro x hx
    rw [evsT] at hx
    rcases List.mem_append.1 hx with hx | hx
    · exact evsI_locs (h l (List.mem_cons_self ..)) x hx
    · exact ih (fun m hm => h m (List.mem_cons_of_mem _ hm)) x hx

end Go.Proofs.YtomijmikkbhgmaaGreat

namespace Go.Proofs.YtomijmikkbhgmaaGreat

/-- Does a list go ahead of another one, number by number? -/
def lx : List Int → List Int → Bool
  | a :: l, b :: m => if a == b then lx l m else decide (a < b)
  | _, _ => false

theorem lx_app {a b : List Int} (h : lx a b = true) (s t : List Int) : lx (a ++ s) (b ++ t) = true := by
  induction a generalizing b with
  | nil => simp [lx] at h
  | cons x a ih =>
    cases b with
    | nil => simp [lx] at h
    | cons y b =>
      rw [List.cons_append, List.cons_append]
      unfold lx at h ⊢
      split
      · rename_i e; rw [if_pos e] at h; exact ih h
      · rename_i e; rw [if_neg e] at h; exact h

theorem lx_same (a s t : List Int) : lx (a ++ s) (a ++ t) = lx s t := by
  induction a with
  | nil => rfl
  | cons x a ih => rw [List.cons_append, List.cons_append, lx, if_pos (by simp)]; exact ih

theorem lx_cons {a b : Int} (h : a < b) (s t : List Int) : lx (a :: s) (b :: t) = true := by
  unfold lx
  rw [if_neg (by simp; omega)]
  simpa using h

abbrev Asc (L : List (List Int)) : Prop := L.Pairwise fun a b => lx a b = true

theorem allF_asc (os : List (List Int)) (h : ∀ o ∈ os, o.Pairwise (· < ·)) : Asc (allF os) := by
  induction os with
  | nil => simp [Asc, allF]
  | cons o os ih =>
    have ih := ih (fun x hx => h x (List.mem_cons_of_mem _ hx))
    unfold Asc allF
    refine List.pairwise_flatMap.2 ⟨fun a _ => List.pairwise_map.2 (ih.imp fun {r s} hrs => ?_), (h o (List.mem_cons_self ..)).imp fun {a b} hab x hx y hy => ?_⟩
    · exact (lx_same [a] r s).trans hrs
    · obtain ⟨r, _, rfl⟩ := List.mem_map.1 hx
      obtain ⟨s, _, rfl⟩ := List.mem_map.1 hy
      exact lx_cons hab r s

theorem ordN_asc (m : Nat) (l : List Int) (h : l.Pairwise (· < ·)) : Asc (ordN m l) := by
  induction m generalizing l with
  | zero => simp [Asc, ordN]
  | succ m ih =>
    unfold Asc ordN
    refine List.pairwise_flatMap.2 ⟨fun i _ => List.pairwise_map.2 ((ih _ (h.sublist (List.eraseIdx_sublist ..))).imp fun {r s} hrs => ?_), ?_⟩
    · exact (lx_same [l.getD i 0] r s).trans hrs
    · refine List.Pairwise.imp_of_mem ?_ List.pairwise_lt_range
      intro i j hi hj hij x hx y hy
      obtain ⟨r, _, rfl⟩ := List.mem_map.1 hx
      obtain ⟨s, _, rfl⟩ := List.mem_map.1 hy
      have hi' : i < l.length := by simpa using hi
      have hj' : j < l.length := by simpa using hj
      refine lx_cons ?_ r s
      rw [List.getD, List.getD, List.getElem?_eq_getElem hi', List.getElem?_eq_getElem hj']
      exact List.pairwise_iff_getElem.1 h i j hi' hj' hij

/-- The entries of an execution behind each other. -/
def plc (x : Exe) : List Int := x.from' ++ x.order.flatten

theorem rdo_asc (E R : List Evt) : ∀ o ∈ rdo E R, o.Pairwise (· < ·) := by
  induction R with
  | nil => simp [rdo]
  | cons x R ih =>
    unfold rdo
    split
    · intro o ho
      rcases List.mem_cons.1 ho with rfl | ho
      · refine List.pairwise_cons.2 ⟨fun w hw => ?_, wrs_sorted E 0 x.loc⟩
        obtain ⟨i, _, _, h2, _⟩ := wrs_mem hw
        omega
      · exact ih o ho
    · exact ih

theorem exs_asc (E : List Evt) : (exs E).Pairwise fun x y => lx (plc x) (plc y) = true := by
  have hF := allF_asc _ (rdo_asc E E)
  have hO := fun j => ordN_asc (wrs E 0 j).length _ (wrs_sorted E 0 j)
  unfold exs
  refine List.pairwise_flatMap.2 ⟨fun f _ => List.pairwise_flatMap.2 ⟨fun a _ => List.pairwise_flatMap.2 ⟨fun b _ => List.pairwise_map.2 ((hO 2).imp fun {c d} hcd => ?_), ?_⟩, ?_⟩, ?_⟩
  · simp only [plc, List.flatten_cons, List.flatten_nil, List.append_nil]
    rw [lx_same, lx_same, lx_same]; exact hcd
  · refine (hO 1).imp fun {b b'} hbb x hx y hy => ?_
    obtain ⟨c, _, rfl⟩ := List.mem_map.1 hx
    obtain ⟨d, _, rfl⟩ := List.mem_map.1 hy
    simp only [plc, List.flatten_cons, List.flatten_nil, List.append_nil]
    rw [lx_same, lx_same]; exact lx_app hbb _ _
  · refine (hO 0).imp fun {a a'} haa x hx y hy => ?_
    obtain ⟨b, _, hx⟩ := List.mem_flatMap.1 hx
    obtain ⟨c, _, rfl⟩ := List.mem_map.1 hx
    obtain ⟨b', _, hy⟩ := List.mem_flatMap.1 hy
    obtain ⟨d, _, rfl⟩ := List.mem_map.1 hy
    simp only [plc, List.flatten_cons, List.flatten_nil, List.append_nil]
    rw [lx_same]; exact lx_app haa _ _
  · refine hF.imp fun {f f'} hff x hx y hy => ?_
    obtain ⟨a, _, hx⟩ := List.mem_flatMap.1 hx
    obtain ⟨b, _, hx⟩ := List.mem_flatMap.1 hx
    obtain ⟨c, _, rfl⟩ := List.mem_map.1 hx
    obtain ⟨a', _, hy⟩ := List.mem_flatMap.1 hy
    obtain ⟨b', _, hy⟩ := List.mem_flatMap.1 hy
    obtain ⟨d, _, rfl⟩ := List.mem_map.1 hy
    exact lx_app hff _ _

/-- Each candidate goes ahead of the next. -/
theorem exN_next (E : List Evt) (n : Nat) (hn : n + 1 < sizeN E) : lx (plc (exN E n)) (plc (exN E (n + 1))) = true := by
  have h1 := exs_at E n (by omega)
  have h2 := exs_at E (n + 1) hn
  obtain ⟨k1, e1⟩ := List.getElem?_eq_some_iff.1 h1
  obtain ⟨k2, e2⟩ := List.getElem?_eq_some_iff.1 h2
  rw [← e1, ← e2]
  exact List.pairwise_iff_getElem.1 (exs_asc E) n (n + 1) k1 k2 (by omega)

/-! each is an execution -/
/-- One number for each read, out of what it may read from. -/
def picks : List Int → List (List Int) → Prop
  | [], [] => True
  | a :: l, o :: os => a ∈ o ∧ picks l os
  | _, _ => False

theorem chF_picks (n : Nat) (os : List (List Int)) (h : ∀ o ∈ os, 1 ≤ o.length) (wt : Nat) : picks (chF n os wt) os := by
  induction os generalizing wt with
  | nil => exact True.intro
  | cons o os ih =>
    have h1 := h o (List.mem_cons_self ..)
    refine ⟨?_, ih (fun x hx => h x (List.mem_cons_of_mem _ hx)) _⟩
    have hlt : n / (wt / o.length) % o.length < o.length := Nat.mod_lt _ h1
    rw [List.getD, List.getElem?_eq_getElem hlt]
    exact List.getElem_mem hlt

theorem chO_perm (n m : Nat) (l : List Int) (h : l.length = m) (wt : Nat) : (chO n m l wt).Perm l := by
  induction m generalizing l wt with
  | zero => have : l = [] := List.eq_nil_of_length_eq_zero h
            subst this; exact List.Perm.refl _
  | succ m ih =>
    unfold chO
    have hlt : n / (wt / l.length) % l.length < l.length := Nat.mod_lt _ (by omega)
    generalize hd : n / (wt / l.length) % l.length = d at hlt
    rw [List.getD, List.getElem?_eq_getElem hlt]
    refine (List.Perm.cons _ (ih (l.eraseIdx d) (by rw [List.length_eraseIdx, if_pos hlt]; omega) _)).trans ?_
    have e : l = l.take d ++ l[d] :: l.drop (d + 1) := by rw [← List.drop_eq_getElem_cons hlt, List.take_append_drop]
    rw [List.eraseIdx_eq_take_drop_succ]
    have p := List.perm_middle (a := l[d]) (l₁ := l.take d) (l₂ := l.drop (d + 1))
    rw [← e] at p
    exact p.symm

/-- An execution of these events. -/
structure Drawn (E : List Evt) (x : Exe) : Prop where
  f : picks x.from' (rdo E E)
  o : ∃ a b c, x.order = [a, b, c] ∧ a.Perm (wrs E 0 0) ∧ b.Perm (wrs E 0 1) ∧ c.Perm (wrs E 0 2)

theorem exN_drawn (E : List Evt) (n : Nat) : Drawn E (exN E n) :=
  ⟨chF_picks _ _ (rdo_pos E E) _, _, _, _, rfl, chO_perm _ _ _ rfl _, chO_perm _ _ _ rfl _, chO_perm _ _ _ rfl _⟩

theorem Drawn.row {E : List Evt} {x : Exe} (h : Drawn E x) {j : Nat} {l : List Int} (hl : x.order[j]? = some l) : l.Perm (wrs E 0 (j : Int)) := by
  obtain ⟨a, b, c, ho, ha, hb, hc⟩ := h.o
  rw [ho] at hl
  match j, hl with
  | 0, hl => simp at hl; subst hl; exact ha
  | 1, hl => simp at hl; subst hl; exact hb
  | 2, hl => simp at hl; subst hl; exact hc
  | j + 3, hl => simp at hl

/-- At the end each write of a location has stood once. -/
theorem Drawn.once {E : List Evt} {x : Exe} (h : Drawn E x) (hE : ∀ y ∈ E, locB y.loc = true) {i : Nat} {y : Evt} (hy : E[i]? = some y) (hk : y.kind = 1) : x.order.flatten.count (i : Int) = 1 := by
  obtain ⟨a, b, c, ho, ha, hb, hc⟩ := h.o
  have hl := hE y (List.mem_of_getElem? hy)
  unfold locB at hl
  simp only [Bool.and_eq_true, decide_eq_true_eq] at hl
  have k0 := wrs_count (k := 0) (loc := 0) hy
  have k1 := wrs_count (k := 0) (loc := 1) hy
  have k2 := wrs_count (k := 0) (loc := 2) hy
  rw [Nat.zero_add] at k0 k1 k2
  rw [ho]
  simp only [List.flatten_cons, List.flatten_nil, List.append_nil, List.count_append]
  rw [ha.count_eq, hb.count_eq, hc.count_eq, k0, k1, k2, hk]
  have h3 : y.loc = 0 ∨ y.loc = 1 ∨ y.loc = 2 := by omega
  rcases h3 with e | e | e <;> simp [e]

end Go.Proofs.YtomijmikkbhgmaaGreat

namespace Go.Proofs.YtomijmikkbhgmaaGreat
open Go.RowKit

theorem intAt_nil (w : World) (B : Nat) : IntNew B w (.slice none 0 0) [] := ⟨none, B, 0, 0, ⟨rfl, fun h => absurd rfl h, fun _ => ⟨rfl, rfl⟩, fun k x h => by simp at h⟩, Nat.le_refl _, Nat.le_refl _⟩

theorem intAt_one (w : World) (a : Int) (t : TypeId) : IntNew w.heap.size (w.alloc (.cells #[.int .i64 a] t)) (.slice (some ⟨w.heap.size, 0, none⟩) 1 1) [a] :=
  ⟨_, w.heap.size, 0, 1, ⟨rfl, fun _ => rfl, fun h => by simp at h, fun k x h => by
    match k, h with
    | 0, h => simp at h; subst h; simp [IntC]⟩, Nat.le_refl _, Nat.le_refl _⟩

theorem intAt_two (w : World) (a b : Int) (t : TypeId) : IntNew w.heap.size (w.alloc (.cells #[.int .i64 a, .int .i64 b] t)) (.slice (some ⟨w.heap.size, 0, none⟩) 2 2) [a, b] :=
  ⟨_, w.heap.size, 0, 2, ⟨rfl, fun _ => rfl, fun h => by simp at h, fun k x h => by
    match k, h with
    | 0, h => simp at h; subst h; simp [IntC]
    | 1, h => simp at h; subst h; simp [IntC]⟩, Nat.le_refl _, Nat.le_refl _⟩

theorem IntNew.of {B : Nat} {w : World} {v : Value} {l m : List Int} (h : IntNew B w v l) (e : m = l) : IntNew B w v m := by rw [e]; exact h

set_option maxHeartbeats 1000000 in
theorem kindsR_any (op : Int) (w : World) :
    Calls Tryz.prog 79 #[.int .i64 op] w fun e w' => ∃ v, e = .returned v ∧ IntNew w.heap.size w' v (kindsOf op) ∧ Below w.heap.size w w' := by
  go_enter Tryz.func79, Tryz.ntmps79
  go_wp2
  all_goals go_ret
  all_goals first
    | exact ⟨_, rfl, (intAt_one _ _ _).of (by simp [kindsOf, *]), below_alloc _ _⟩
    | exact ⟨_, rfl, (intAt_two _ _ _ _).of (by simp [kindsOf, *]), below_alloc _ _⟩
    | exact ⟨_, rfl, (intAt_nil _ _).of (by simp [kindsOf, *]), Below.refl _ _⟩

set_option maxHeartbeats 1000000 in
theorem kindsP_any (op : Int) (w : World) :
    Calls Tryz.prog 72 #[.int .i64 op] w fun e w' => ∃ v, e = .returned v ∧ IntNew w.heap.size w' v (kindsOf op) ∧ Below w.heap.size w w' := by
  go_enter Tryz.func72, Tryz.ntmps72
  go_wp2
  all_goals go_ret
  all_goals first
    | exact ⟨_, rfl, (intAt_one _ _ _).of (by simp [kindsOf, *]), below_alloc _ _⟩
    | exact ⟨_, rfl, (intAt_two _ _ _ _).of (by simp [kindsOf, *]), below_alloc _ _⟩
    | exact ⟨_, rfl, (intAt_nil _ _).of (by simp [kindsOf, *]), Below.refl _ _⟩

end Go.Proofs.YtomijmikkbhgmaaGreat
