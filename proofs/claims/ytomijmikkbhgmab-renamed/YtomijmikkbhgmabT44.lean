import Derived.Test.YtomijmikkbhgmabT43
namespace Go.Proofs.Ytomijmikkbhgmab

theorem nodup_leA {α : Type} {l m : List α} (h : l.Nodup) (hs : ∀ x ∈ l, x ∈ m) : l.length ≤ m.length := by
  induction l generalizing m with
  | nil => exact Nat.zero_le _
  | cons x l ih =>
    obtain ⟨h1, h2⟩ := List.nodup_cons.1 h
    obtain ⟨a, b, rfl⟩ := List.append_of_mem (hs x (List.mem_cons_self ..))
    have := ih (m := a ++ b) h2 (fun y hy => by
      have hy' := hs y (List.mem_cons_of_mem _ hy)
      rcases List.mem_append.1 hy' with q | q
      · exact List.mem_append_left _ q
      · rcases List.mem_cons.1 q with rfl | q
        · exact absurd hy h1
        · exact List.mem_append_right _ q)
    simp only [List.length_append, List.length_cons] at this ⊢
    omega

theorem lx_irr (l : List Int) : lx l l = false := by
  induction l with
  | nil => rfl
  | cons a l ih => rw [lx, if_pos (by simp)]; exact ih

theorem exN_inj {E : List Evt} {a b : Nat} (ha : a < sizeN E) (hb : b < sizeN E) (h : exN E a = exN E b) : a = b := by
  have key : ∀ a b, a < b → b < sizeN E → exN E a ≠ exN E b := fun a b hab hb e => by
    have h1 := exs_at E a (by omega)
    have h2 := exs_at E b hb
    obtain ⟨k1, e1⟩ := List.getElem?_eq_some_iff.1 h1
    obtain ⟨k2, e2⟩ := List.getElem?_eq_some_iff.1 h2
    have := List.pairwise_iff_getElem.1 (exs_asc E) a b k1 k2 hab
    rw [e1, e2, e, lx_irr] at this
    cases this
  rcases Nat.lt_trichotomy a b with q | q | q
  · exact absurd h (key a b q hb)
  · exact q
  · exact absurd h.symm (key b a q ha)

theorem map_inj_on {α β : Type} {f : α → β} {l m : List α} (h : ∀ a ∈ l, ∀ b ∈ m, f a = f b → a = b) (he : l.map f = m.map f) : l = m := by
  induction l generalizing m with
  | nil => cases m with
    | nil => rfl
    | cons b m => simp at he
  | cons a l ih => cases m with
    | nil => simp at he
    | cons b m =>
      rw [List.map_cons, List.map_cons] at he
      injection he with e1 e2
      rw [h a (List.mem_cons_self ..) b (List.mem_cons_self ..) e1, ih (fun x hx y hy => h x (List.mem_cons_of_mem _ hx) y (List.mem_cons_of_mem _ hy)) e2]

theorem from_src {T : List (List Ins)} (hF : Fits T) {x : Exe} (hx : IsEx (evsT T 0) x) : x.from' = (rdsX (evsT T 0) 0).map fun p => srcS (evsT T 0) x p.1 := by
  have hr := hx.ranks hF.el hF.locs
  apply List.ext_getElem?
  intro i
  rw [List.getElem?_map]
  by_cases hi : i < x.from'.length
  · obtain ⟨f, hf⟩ := get_of_lt hi
    obtain ⟨p, hp⟩ := get_of_lt (l := rdsX (evsT T 0) 0) (k := i) (by rw [← hx.f]; exact hi)
    have hz : (p, f) ∈ (rdsX (evsT T 0) 0).zip x.from' := by
      refine List.mem_of_getElem? (i := i) ?_
      rw [List.getElem?_zip_eq_some]
      exact ⟨hp, hf⟩
    have := ((hr.zip p.1 p.2 f).1 hz).2.2
    rw [hf, hp, Option.map_some]
    exact congrArg some this.symm
  · rw [List.getElem?_eq_none (by omega), List.getElem?_eq_none (by rw [← hx.f]; omega)]
    rfl

theorem phi_inj {T T' : List (List Ins)} {σ : Nat → Nat} {k m : Int} (h : Rn T T' σ k m) {x z : Exe} (hx : IsEx (evsT T 0) x) (hz : IsEx (evsT T 0) z) (e : phiX T T' σ k m x = phiX T T' σ k m z) : x = z := by
  have hrx := hx.ranks h.f.el h.f.locs
  have hrz := hz.ranks h.f.el h.f.locs
  have piinj : ∀ a b : Int, (a = -1 ∨ ∃ i : Nat, a = (i : Int) ∧ i < (evsT T 0).length) → (b = -1 ∨ ∃ i : Nat, b = (i : Int) ∧ i < (evsT T 0).length) → piI T T' σ a = piI T T' σ b → a = b := by
    rintro a b (rfl | ⟨i, rfl, hi⟩) (rfl | ⟨j, rfl, hj⟩) e
    · rfl
    · rw [piI_neg, piI_nat] at e; omega
    · rw [piI_neg, piI_nat] at e; omega
    · rw [piI_nat, piI_nat] at e
      rw [piE_inj h.r hi hj (by omega)]
  have hord : ∀ loc, locB loc = true → ordAt x loc = ordAt z loc := fun loc hl => by
    have hl' := lamL_ok h.hk h.hm hl
    have e1 := phi_ord (T := T) (T' := T') (σ := σ) (k := k) (m := m) (x := x) hl'
    have e2 := phi_ord (T := T) (T' := T') (σ := σ) (k := k) (m := m) (x := z) hl'
    rw [lamL_inv] at e1 e2
    rw [e] at e1
    have e3 := e1.symm.trans e2
    refine map_inj_on (fun a ha b hb hab => ?_) e3
    obtain ⟨i, _, q1, q2, _⟩ := (hrx.mem _ hl a).1 ha
    obtain ⟨j, _, r1, r2, _⟩ := (hrz.mem _ hl b).1 hb
    exact piinj a b (.inr ⟨i, q2, (List.getElem?_eq_some_iff.1 q1).1⟩) (.inr ⟨j, r2, (List.getElem?_eq_some_iff.1 r1).1⟩) hab
  have hsrc : ∀ i, i < (evsT T 0).length → srcS (evsT T 0) x i = srcS (evsT T 0) z i := fun i hi => by
    have e1 := phi_src h hx hi
    have e2 := phi_src h hz hi
    rw [e] at e1
    have rng : ∀ {w : Exe} (_ : IsEx (evsT T 0) w), srcS (evsT T 0) w i = -1 ∨ ∃ j : Nat, srcS (evsT T 0) w i = (j : Int) ∧ j < (evsT T 0).length := fun {w} hw => by
      have hr := hw.ranks h.f.el h.f.locs
      obtain ⟨y, hy⟩ := get_of_lt hi
      by_cases hk : y.kind = 0
      · rcases hr.read i y hy hk with ⟨s1, _⟩ | ⟨a, _, s1, s2, _⟩
        · exact .inl s1
        · exact .inr ⟨a, s1, s2⟩
      · exact .inl (hr.other i y hy hk)
    exact piinj _ _ (rng hx) (rng hz) (e1.symm.trans e2)
  have ef : x.from' = z.from' := by
    rw [from_src h.f hx, from_src h.f hz]
    refine List.map_congr_left fun p hp => ?_
    obtain ⟨_, q1, _⟩ := rdsX_mem hp
    rw [Nat.sub_zero] at q1
    exact hsrc _ (List.getElem?_eq_some_iff.1 q1).1
  have eo : x.order = z.order := by
    apply List.ext_getElem?
    intro j
    by_cases hj : j < 3
    · have := hord (j : Int) (by unfold locB; simp; omega)
      unfold ordAt at this
      rw [Int.toNat_natCast] at this
      obtain ⟨a, ha⟩ := get_of_lt (l := x.order) (k := j) (by rw [hx.o3]; exact hj)
      obtain ⟨b, hb⟩ := get_of_lt (l := z.order) (k := j) (by rw [hz.o3]; exact hj)
      rw [List.getD_eq_getElem?_getD, List.getD_eq_getElem?_getD, ha, hb] at this
      have hab : a = b := this
      rw [ha, hb, hab]
    · rw [List.getElem?_eq_none (by rw [hx.o3]; omega), List.getElem?_eq_none (by rw [hz.o3]; omega)]
  cases x
  cases z
  simp only at ef eo
  rw [ef, eo]

theorem ren_sub {T T' : List (List Ins)} {σ : Nat → Nat} {k m : Int} (h : Rn T T' σ k m) (P : Nat → Bool) (Q : Nat → Bool) (hPQ : ∀ n n', n < sizeN (evsT T 0) → n' < sizeN (evsT T' 0) → exN (evsT T' 0) n' = phiX T T' σ k m (exN (evsT T 0) n) → P n = true → Q n' = true) :
    ((List.range (sizeN (evsT T 0))).filter P).length ≤ ((List.range (sizeN (evsT T' 0))).filter Q).length := by
  have hex : ∀ n, ∃ n', n' < sizeN (evsT T' 0) ∧ exN (evsT T' 0) n' = phiX T T' σ k m (exN (evsT T 0) n) := fun n => (phi_isEx h (exN_isEx _ n)).mem
  have h1 := nodup_leA (l := ((List.range (sizeN (evsT T 0))).filter P).map fun n => Classical.choose (hex n)) (m := (List.range (sizeN (evsT T' 0))).filter Q) ?_ ?_
  · simpa using h1
  · refine nodup_map_on (fun a ha b hb e => ?_) (List.nodup_range.filter _)
    have ha' := List.mem_range.1 (List.mem_filter.1 ha).1
    have hb' := List.mem_range.1 (List.mem_filter.1 hb).1
    have e1 := (Classical.choose_spec (hex a)).2
    have e2 := (Classical.choose_spec (hex b)).2
    rw [e] at e1
    exact exN_inj ha' hb' (phi_inj h (exN_isEx _ a) (exN_isEx _ b) (e1.symm.trans e2))
  · intro y hy
    obtain ⟨n, hn, rfl⟩ := List.mem_map.1 hy
    obtain ⟨q1, q2⟩ := List.mem_filter.1 hn
    obtain ⟨c1, c2⟩ := Classical.choose_spec (hex n)
    exact List.mem_filter.2 ⟨List.mem_range.2 c1, hPQ n _ (List.mem_range.1 q1) c1 c2 q2⟩

theorem ren_size {T T' : List (List Ins)} {σ : Nat → Nat} {k m : Int} (h : Rn T T' σ k m) : sizeN (evsT T 0) ≤ sizeN (evsT T' 0) := by
  have := ren_sub h (fun _ => true) (fun _ => true) (fun _ _ _ _ _ _ => rfl)
  rw [List.filter_eq_self.2 (fun _ _ => rfl), List.filter_eq_self.2 (fun _ _ => rfl), List.length_range, List.length_range] at this
  exact this

theorem cnSt_fil (al : Nat → Bool) (f : Nat → List Int) (N : Nat) (s : List Int) : cnSt ((casN al N).map f) s = ((List.range N).filter fun n => al n && f n == s).length := by
  induction N with
  | zero => rfl
  | succ N ih =>
    rw [List.range_succ, List.filter_append, List.length_append, ← ih]
    cases h1 : al N
    · rw [casN_no h1]
      simp [h1]
    · rw [casN_yes h1, List.map_append]
      show cnSt (_ ++ [f N]) s = _
      rw [cnSt_snoc]
      cases h2 : f N == s
      · simp [h1, h2]
      · simp [h1, h2]

theorem ren_cnt {T T' : List (List Ins)} {σ : Nat → Nat} {k m : Int} (h : Rn T T' σ k m) (hn : ∀ l ∈ T, nst l 0 false < 0) (hn' : ∀ l ∈ T', nst l 0 false < 0) {al al' : Nat → Bool} (hal : Als T (evsT T 0) al) (hal' : Als T' (evsT T' 0) al') (s : List Int) : cnOu (outT al T) s ≤ cnOu (outT al' T') (renS T.length σ k m s) := by
  rw [outT_cnt, outT_cnt, cnSt_fil, cnSt_fil]
  refine ren_sub h _ _ fun n n' h1 h2 h3 h4 => ?_
  rw [Bool.and_eq_true] at h4 ⊢
  obtain ⟨h5, h6⟩ := h4
  have hs : stX T (evsT T 0) (exN (evsT T 0) n) = s := by simpa using h6
  refine ⟨(hal' n' h2).2 ?_, ?_⟩
  · rw [h3]
    exact alw_pi h hn hn' (exN_isEx _ n) ((hal n h1).1 h5)
  · rw [h3, stX_pi h (exN_isEx _ n), hs, beq_self_eq_true]

theorem stX_ren {T T' : List (List Ins)} {σ : Nat → Nat} {k m : Int} (h : Rn T T' σ k m) (E : List Evt) (x : Exe) : renS T.length σ k m (renS T.length σ k m (stX T E x)) = stX T E x := by
  unfold stX staL
  exact renS_inv h.r.inv h.hk h.hm _ _

/-- The outcomes change about, each as frequent. -/
theorem ren_out {T T' : List (List Ins)} {σ : Nat → Nat} {k m : Int} (h : Rn T T' σ k m) (hn : ∀ l ∈ T, nst l 0 false < 0) (hn' : ∀ l ∈ T', nst l 0 false < 0) {al al' : Nat → Bool} (hal : Als T (evsT T 0) al) (hal' : Als T' (evsT T' 0) al') (hf : KFit (3 * T.length + 3) (outT al T)) : ∀ p ∈ outT al T, cnOu (outT al' T') (renS T.length σ k m p.1) = p.2 := by
  intro p hp
  have h1 := ren_cnt h hn hn' hal hal' p.1
  have h2 := ren_cnt h.symm hn' hn hal' hal (renS T.length σ k m p.1)
  rw [h.r.len] at h2
  obtain ⟨n, _, _, e⟩ := (outT_mem al p.1).1 ⟨p, hp, rfl⟩
  rw [← e, stX_ren h, e] at h2
  rw [cnOu_at hf.srt hp] at h1 h2
  rw [← e] at h1 h2 ⊢
  omega

theorem ren_outLen {T T' : List (List Ins)} {σ : Nat → Nat} {k m : Int} (h : Rn T T' σ k m) (hn : ∀ l ∈ T, nst l 0 false < 0) (hn' : ∀ l ∈ T', nst l 0 false < 0) {al al' : Nat → Bool} (hal : Als T (evsT T 0) al) (hal' : Als T' (evsT T' 0) al') (hf : KFit (3 * T.length + 3) (outT al T)) : (outT al T).length ≤ (outT al' T').length := by
  have := nodup_leA (l := ((outT al T).map (·.1)).map (renS T.length σ k m)) (m := (outT al' T').map (·.1)) ?_ ?_
  · simpa using this
  · refine nodup_map_on (fun a ha b hb e => ?_) (List.pairwise_map.2 (srt_dis hf.srt))
    obtain ⟨p, hp, rfl⟩ := List.mem_map.1 ha
    obtain ⟨q, hq, rfl⟩ := List.mem_map.1 hb
    obtain ⟨n, _, _, e1⟩ := (outT_mem al p.1).1 ⟨p, hp, rfl⟩
    obtain ⟨n', _, _, e2⟩ := (outT_mem al q.1).1 ⟨q, hq, rfl⟩
    rw [← e1, ← e2] at e ⊢
    have := congrArg (renS T.length σ k m) e
    rw [stX_ren h, stX_ren h] at this
    exact this
  · intro s hs
    obtain ⟨s0, hs0, rfl⟩ := List.mem_map.1 hs
    obtain ⟨p, hp, rfl⟩ := List.mem_map.1 hs0
    have h1 := ren_out h hn hn' hal hal' hf p hp
    obtain ⟨q, hq, e⟩ := cnOu_pos (K := outT al' T') (t := renS T.length σ k m p.1) (by rw [h1]; exact hf.pos p hp)
    exact List.mem_map.2 ⟨q, hq, e⟩

end Go.Proofs.Ytomijmikkbhgmab

namespace Go.Proofs.Ytomijmikkbhgmab

def sigT (i j a : Nat) : Nat := if a = i then j else if a = j then i else a
def swU (k m : Int) (T : List (List Ins)) : List (List Ins) := T.map fun l => l.map (swI k m)
def swT (T : List (List Ins)) (i j : Nat) (k m : Int) : List (List Ins) := ((swU k m T).set i ((swU k m T).getD j [])).set j ((swU k m T).getD i [])

theorem swT_len (T : List (List Ins)) (i j : Nat) (k m : Int) : (swT T i j k m).length = T.length := by unfold swT swU; simp

theorem swU_get {T : List (List Ins)} {k m : Int} {a : Nat} {l : List Ins} (h : T[a]? = some l) : (swU k m T)[a]? = some (l.map (swI k m)) := by unfold swU; rw [List.getElem?_map, h]; rfl
theorem swU_getD {T : List (List Ins)} {k m : Int} {a : Nat} {l : List Ins} (h : T[a]? = some l) : (swU k m T).getD a [] = l.map (swI k m) := by rw [List.getD_eq_getElem?_getD, swU_get h]; rfl

theorem swT_ren (T : List (List Ins)) {i j : Nat} (hi : i < T.length) (hj : j < T.length) (k m : Int) : Ren T (swT T i j k m) (sigT i j) k m := by
  refine ⟨swT_len T i j k m, fun a ha => ?_, fun a l hl => ?_⟩
  · unfold sigT
    by_cases h1 : a = i
    · subst h1
      rw [if_pos rfl]
      by_cases h2 : j = a
      · subst h2
        exact ⟨hj, by rw [if_pos rfl]⟩
      · exact ⟨hj, by rw [if_neg h2, if_pos rfl]⟩
    · rw [if_neg h1]
      by_cases h2 : a = j
      · subst h2
        rw [if_pos rfl, if_pos rfl]
        exact ⟨hi, rfl⟩
      · rw [if_neg h2, if_neg h1, if_neg h2]
        exact ⟨ha, rfl⟩
  · have hlen : (swU k m T).length = T.length := by unfold swU; simp
    have hal := (List.getElem?_eq_some_iff.1 hl).1
    unfold sigT swT
    by_cases h1 : a = i
    · subst h1
      rw [if_pos rfl, List.getElem?_set_self (by simp [hlen]; exact hj), swU_getD hl]
    · rw [if_neg h1]
      by_cases h2 : a = j
      · subst h2
        rw [if_pos rfl, List.getElem?_set_ne h1, List.getElem?_set_self (by rw [hlen]; exact hi), swU_getD hl]
      · rw [if_neg h2, List.getElem?_set_ne (fun e => h2 e.symm), List.getElem?_set_ne (fun e => h1 e.symm), swU_get hl]

theorem may_sw {k m : Int} (hk : locB k = true) (hm : locB m = true) (x : Ins) (h : mayB x = true) : mayB (swI k m x) = true := by
  by_cases ho : 0 ≤ x.op ∧ x.op ≤ 3
  · have hl : locB x.loc = true := mayB_loc h
    have hl' := lamL_ok hk hm hl
    have e : swI k m x = { x with loc := lamL k m x.loc } := by unfold swI; rw [if_pos ho]
    rw [e]
    unfold mayB at h ⊢
    simp only [hl, hl'] at h ⊢
    have e4 : (x.op == 4) = false := by simp; omega
    have e5 : (x.op == 5) = false := by simp; omega
    have e6 : (x.op == 6) = false := by simp; omega
    have e7 : (x.op == 7) = false := by simp; omega
    simp only [e4, e5, e6, e7] at h ⊢
    exact h
  · have e : swI k m x = x := by unfold swI; rw [if_neg ho]
    rw [e]
    exact h

theorem nst_sw (k m : Int) (l : List Ins) (j : Nat) (b : Bool) : nst (l.map (swI k m)) j b = nst l j b := by
  induction l generalizing j b with
  | nil => rfl
  | cons x l ih => simp only [List.map_cons, nst, swI_op, ih]

theorem thoL_pw (kd : Int) (E : List Evt) (i : Nat) : (thoL kd E i).Nodup := by
  induction E generalizing i with
  | nil => exact List.nodup_nil
  | cons x E ih =>
    cases hx : x.kind == kd
    · rw [thoL_mis hx]; exact ih _
    · rw [thoL_hit hx, List.nodup_cons]
      refine ⟨fun hm => ?_, ih _⟩
      have := thoL_ge hm
      omega

theorem cnt_ren {T T' : List (List Ins)} {σ : Nat → Nat} {k m : Int} (h : Ren T T' σ k m) (kd : Int) : cntK kd (evsT T 0) ≤ cntK kd (evsT T' 0) := by
  rw [← thoL_len kd _ 0, ← thoL_len kd _ 0]
  have := nodup_leA (l := (thoL kd (evsT T 0) 0).map (piI T T' σ)) (m := thoL kd (evsT T' 0) 0) ?_ ?_
  · simpa using this
  · refine nodup_map_on (fun a ha b hb e => ?_) (thoL_pw _ _ _)
    obtain ⟨i, _, q1, _, q3⟩ := thoL_mem ha
    obtain ⟨j, _, r1, _, r3⟩ := thoL_mem hb
    rw [q3, r3, Nat.zero_add, Nat.zero_add, piI_nat, piI_nat] at e
    rw [q3, r3, Nat.zero_add, Nat.zero_add, piE_inj h (List.getElem?_eq_some_iff.1 q1).1 (List.getElem?_eq_some_iff.1 r1).1 (by omega)]
  · intro y hy
    obtain ⟨a, ha, rfl⟩ := List.mem_map.1 hy
    obtain ⟨i, _, q1, q2, q3⟩ := thoL_mem ha
    rw [q3, Nat.zero_add, piI_nat]
    have := thoL_in 0 (ren_ev h q1) q2
    rw [Nat.zero_add] at this
    exact this

theorem insF_ok' {T : List (List Ins)} (h : ∀ l ∈ T, ∀ x ∈ l, mayB x = true) (i : Nat) : insF T i = none := by
  induction T generalizing i with
  | nil => rfl
  | cons l T ih =>
    have hb : ∀ (l : List Ins) (j : Nat), (∀ x ∈ l, mayB x = true) → badAt l j = none := by
      intro l
      induction l with
      | nil => intro j _; rfl
      | cons x l ih => intro j hx; rw [badAt_ok (hx x (List.mem_cons_self ..))]; exact ih _ (fun y hy => hx y (List.mem_cons_of_mem _ hy))
    rw [insF_ok (hb l 0 (h l (List.mem_cons_self ..)))]
    exact ih (fun l hl => h l (List.mem_cons_of_mem _ hl)) _
theorem nstF_ok' {T : List (List Ins)} (h : ∀ l ∈ T, nst l 0 false < 0) (i : Nat) : nstF T i = none := by
  induction T generalizing i with
  | nil => rfl
  | cons l T ih =>
    rw [nstF_ok (by have := h l (List.mem_cons_self ..); omega)]
    exact ih (fun l hl => h l (List.mem_cons_of_mem _ hl)) _
theorem lensB_ok' {T : List (List Ins)} (h : ∀ l ∈ T, l.length ≤ 12) : lensB T = true := by
  induction T with
  | nil => rfl
  | cons l T ih =>
    unfold lensB
    rw [Bool.and_eq_true]
    exact ⟨by simpa using h l (List.mem_cons_self ..), ih fun l hl => h l (List.mem_cons_of_mem _ hl)⟩

/-- A test that may be, and its other one: that may be, too. -/
theorem ren_chk {T T' : List (List Ins)} {c : List Atm} {σ : Nat → Nat} {k m : Int} (hz : ((chk T c).1 == 0) = true) (h : Ren T T' σ k m) (hk : locB k = true) (hm : locB m = true) : ((chk T' []).1 == 0) = true ∧ Rn T T' σ k m ∧ (∀ l ∈ T, nst l 0 false < 0) ∧ ∀ l ∈ T', nst l 0 false < 0 := by
  have hF := fits_of hz
  have hrow : ∀ l' ∈ T', ∃ l ∈ T, l' = l.map (swI k m) := fun l' hl' => by
    obtain ⟨a, ha⟩ := List.getElem?_of_mem hl'
    have := h.symm.row a l' ha
    exact ⟨_, List.mem_of_getElem? this, (sw_inv k m l').symm⟩
  have hmay : ∀ l ∈ T', ∀ x ∈ l, mayB x = true := fun l' hl' x hx => by
    obtain ⟨l, hl, rfl⟩ := hrow l' hl'
    obtain ⟨y, hy, rfl⟩ := List.mem_map.1 hx
    exact may_sw hk hm y (chk_may hz l hl y hy)
  have h12 : ∀ l ∈ T', l.length ≤ 12 := fun l' hl' => by
    obtain ⟨l, hl, rfl⟩ := hrow l' hl'
    rw [List.length_map]
    exact hF.short.l12 l hl
  obtain ⟨hnF, hmany⟩ := chk_nested hz
  have hn := nstF_all hnF
  have hn' : ∀ l ∈ T', nst l 0 false < 0 := fun l' hl' => by
    obtain ⟨l, hl, rfl⟩ := hrow l' hl'
    rw [nst_sw]
    exact hn l hl
  have hT4 := hF.short.t4
  have hlens := lensB_ok' h12
  have hel := evsT_len T' 0 hlens
  have hF' : Fits T' := ⟨⟨by rw [h.len]; exact hT4, h12⟩, hlens, by rw [h.len] at hel; omega, evsT_locs (fun l hl x hx => mayB_loc (hmay l hl x hx))⟩
  have hRn : Rn T T' σ k m := ⟨h, hF, hF', hk, hm⟩
  refine ⟨?_, hRn, hn, hn'⟩
  have hs := chk_zero hz
  have hs' : sizeB T' [] = true := by
    unfold sizeB at hs ⊢
    simp only [Bool.and_eq_true, decide_eq_true_eq] at hs ⊢
    exact ⟨⟨⟨by rw [h.len]; exact hs.1.1.1, by rw [h.len]; exact hs.1.1.2⟩, hlens⟩, by simp⟩
  have hm' : manyB T' = false := by
    unfold manyB at hmany ⊢
    simp only [Bool.or_eq_false_iff, decide_eq_false_iff_not] at hmany ⊢
    have c5 := cnt_ren h.symm 2
    have c7 := cnt_ren h.symm 4
    rw [cntK_evsT 5 2 kinds_enter, cntK_evsT 5 2 kinds_enter] at c5
    rw [cntK_evsT 7 4 kinds_sync, cntK_evsT 7 4 kinds_sync] at c7
    have cs := ren_size hRn.symm
    have hz2 := chk_many_no hz
    refine ⟨⟨by omega, by omega⟩, ?_⟩
    rw [cap2_of_le (by omega)]
    omega
  rw [chk_ok hs' (insF_ok' hmay 0) (nstF_ok' hn' 0) rfl hm']
  rfl

end Go.Proofs.Ytomijmikkbhgmab
