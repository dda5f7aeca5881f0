import Derived.Test.YtomijmikkbhgmabT40
namespace Go.Proofs.Ytomijmikkbhgmab

theorem isAt_get {E : List Evt} {i : Nat} {k loc op val : Int} (h : isAt E i k loc op val = true) : ∃ y, E[i]? = some y ∧ y.kind = k ∧ y.loc = loc ∧ y.ins.op = op ∧ y.ins.val = val := by
  unfold isAt at h
  cases hy : E[i]? with
  | none => rw [hy] at h; cases h
  | some y =>
    rw [hy] at h
    simp only [Bool.and_eq_true, beq_iff_eq] at h
    exact ⟨y, rfl, h.1.1.1, h.1.1.2, h.1.2, h.2⟩

theorem alw_parts {T : List (List Ins)} {E : List Evt} {x : Exe} (h : Alw T E x) : Parts E.length (mtL (thoL 2 E 0) (thoL 3 E 0) (thoL 4 E 0)) (kepA T E x) := by
  have := alB_iff.2 h
  unfold alB at this
  simp only [Bool.and_eq_true, partsB_iff] at this
  exact this.2

theorem kep_mem {T : List (List Ins)} {E : List Evt} {x : Exe} {a b : Nat} (h : pairB E (keepP T E) a b = true) (hab : a < b) (hb : b < E.length) : ((a : Int), (b : Int)) ∈ kepA T E x := List.mem_append_right _ (allD_mem.2 ⟨hb, hab, h⟩)

theorem split_no {T : List (List Ins)} {E : List Evt} (hl : E.length ≤ 96) (hloc : ∀ y ∈ E, locB y.loc = true) {x : Exe} (hx : IsEx E x) (hA : Alw T E x) (h01 : pairB E (keepP T E) 0 1 = true) (h23 : pairB E (keepP T E) 2 3 = true) (i0 : isAt E 0 1 0 0 1 = true) (i3 : isAt E 3 1 1 0 1 = true) (w0 : wrs E 0 0 = [0]) (w1 : wrs E 0 1 = [3])
    (b : Nat) (hb4 : 4 ≤ b) (pt : List Int) (k : Nat) (hR : secR T E b pt k = true) (m : Mt) (hm : m ∈ mtL (thoL 2 E 0) (thoL 3 E 0) (thoL 4 E 0)) (hmB : mtB m (b : Int) ((b + 1 + pt.length : Nat) : Int) 1 2 = true)
    (i j : Nat) (hi : pt[i]? = some 0) (hj : pt[j]? = some 1) (hs0 : regV E (frS E x) k i = 0) (hs1 : regV E (frS E x) k j = 1) : False := by
  have hr := hx.ranks hl hloc
  have hli := (List.getElem?_eq_some_iff.1 hi).1
  have hlj := (List.getElem?_eq_some_iff.1 hj).1
  unfold secR at hR
  simp only [Bool.and_eq_true, List.all_eq_true, List.mem_range, decide_eq_true_eq, beq_iff_eq] at hR
  obtain ⟨hbl, hR⟩ := hR
  obtain ⟨⟨⟨ki, _⟩, ai⟩, si⟩ := hR i hli
  obtain ⟨⟨⟨_, kj⟩, aj⟩, sj⟩ := hR j hlj
  obtain ⟨y, hy, y1, y2, _, _⟩ := isAt_get ai
  obtain ⟨z, hz, z1, z2, _, _⟩ := isAt_get aj
  obtain ⟨e0, he0, e01, e02, e03, e04⟩ := isAt_get i0
  obtain ⟨e3, he3, e31, e32, e33, e34⟩ := isAt_get i3
  have hyl : y.loc = 0 := by rw [y2, List.getD_eq_getElem?_getD, hi]; rfl
  have hzl : z.loc = 1 := by rw [z2, List.getD_eq_getElem?_getD, hj]; rfl
  obtain ⟨d, hd⟩ : ∃ d, 2 * E.length = d + 1 + 1 := ⟨2 * E.length - 2, by omega⟩
  have fS : ∀ r u, E[r]? = some u → u.kind = 0 → frS E x r = srcS E x r := fun r u hu hk => (src_same hl hloc hx r u hu (by simp [hk])).symm
  -- the load of x
  have hSy : srcS E x (b + 1 + i) = -1 := by
    rcases hr.read _ y hy y1 with ⟨h, _⟩ | ⟨a, q, h1, _, h3, _⟩
    · exact h
    · exfalso
      have ha : (a : Int) ∈ wrs E 0 0 := by
        have := (hr.mem 0 (by decide) (a : Int)).1 (by rw [← hyl]; exact List.mem_of_getElem? h3)
        exact wrs_iff.2 this
      rw [w0] at ha
      have ha0 : a = 0 := by simpa using ha
      subst ha0
      unfold regV at hs0
      rw [si, hd, valN_read hy (by simp [y1]), fS _ y hy y1] at hs0
      have : valN E (frS E x) (d + 1) (srcS E x (b + 1 + i)) = 1 := by
        have h1' : srcS E x (b + 1 + i) = ((0 : Nat) : Int) := h1
        rw [h1', valN_else he0 (by simp [e01]) (by simp [e03]), e04]
      rw [this] at hs0
      cases hs0
  have hSz : srcS E x (b + 1 + j) = 3 := by
    rcases hr.read _ z hz z1 with ⟨h, _⟩ | ⟨a, q, h1, _, h3, _⟩
    · exfalso
      unfold regV at hs1
      rw [sj, hd, valN_read hz (by simp [z1]), fS _ z hz z1] at hs1
      have h1' : srcS E x (b + 1 + j) = -1 := h
      rw [h1', valN_neg _ _ _ (by omega)] at hs1
      cases hs1
    · have ha : (a : Int) ∈ wrs E 0 1 := by
        have := (hr.mem 1 (by decide) (a : Int)).1 (by rw [← hzl]; exact List.mem_of_getElem? h3)
        exact wrs_iff.2 this
      rw [w1] at ha
      have ha0 : (a : Int) = 3 := by simpa using ha
      rw [← ha0]
      exact h1
  have ay : (((b + 1 + i : Nat) : Int), ((0 : Nat) : Int)) ∈ kepA T E x := by
    refine List.mem_append_left _ (List.mem_append_left _ (List.mem_flatMap.2 ⟨((b + 1 + i, y), -1), (hr.zip _ _ _).2 ⟨hy, y1, hSy⟩, ?_⟩))
    unfold arw1
    refine List.mem_append_right _ (fanL_mem.2 ⟨rfl, ?_⟩)
    show ((0 : Nat) : Int) ∈ restL (ordAt x y.loc) (-1)
    unfold restL
    rw [if_pos (by rfl), hyl]
    exact (hr.mem 0 (by decide) _).2 ⟨0, e0, he0, rfl, e01, e02⟩
  have az : (((3 : Nat) : Int), ((b + 1 + j : Nat) : Int)) ∈ kepA T E x := by
    refine List.mem_append_left _ (List.mem_append_left _ (List.mem_flatMap.2 ⟨((b + 1 + j, z), 3), (hr.zip _ _ _).2 ⟨hz, z1, hSz⟩, ?_⟩))
    unfold arw1
    refine List.mem_append_left _ ?_
    show _ ∈ if ((3 : Int) == -1) = true then [] else _
    rw [if_neg (by decide)]
    exact List.mem_singleton.2 rfl
  have hP := alw_parts hA
  rw [parts_iff] at hP
  obtain ⟨β, hC⟩ := hP
  obtain ⟨c, hc⟩ := List.getElem?_of_mem hm
  have hp := List.mem_of_getElem? (chS_get _ β c m hc)
  unfold mtB at hmB
  simp only [Bool.and_eq_true, beq_iff_eq] at hmB
  obtain ⟨⟨⟨m1, m2⟩, m3⟩, m4⟩ := hmB
  refine hC ?_
  cases hβ : β c
  · rw [hβ] at hp
    have hp' : (((b + 1 + pt.length : Nat) : Int), ((2 : Nat) : Int)) ∈ chS β (mtL (thoL 2 E 0) (thoL 3 E 0) (thoL 4 E 0)) := by
      have e : pick false m = (((b + 1 + pt.length : Nat) : Int), ((2 : Nat) : Int)) := by unfold pick; rw [m2, m4]; rfl
      rw [← e]; exact hp
    exact cyc4 (a := 2) (b := 3) (c := b + 1 + j) (d := b + 1 + pt.length) (by omega) (by omega) (by omega) hbl (List.mem_append_left _ (kep_mem h23 (by omega) (by omega))) (List.mem_append_left _ az) (List.mem_append_left _ (kep_mem kj (by omega) hbl)) (List.mem_append_right _ hp')
  · rw [hβ] at hp
    have hp' : (((1 : Nat) : Int), (b : Int)) ∈ chS β (mtL (thoL 2 E 0) (thoL 3 E 0) (thoL 4 E 0)) := by
      have e : pick true m = (((1 : Nat) : Int), (b : Int)) := by unfold pick; rw [m1, m3]; rfl
      rw [← e]; exact hp
    exact cyc4 (a := 1) (b := b) (c := b + 1 + i) (d := 0) (by omega) (by omega) (by omega) (by omega) (List.mem_append_right _ hp') (List.mem_append_left _ (kep_mem ki (by omega) (by omega))) (List.mem_append_left _ ay) (List.mem_append_left _ (kep_mem h01 (by omega) (by omega)))

end Go.Proofs.Ytomijmikkbhgmab

namespace Go.Proofs.Ytomijmikkbhgmab

def lamL (k m l : Int) : Int := if l == k then m else if l == m then k else l
theorem lamL_inv (k m l : Int) : lamL k m (lamL k m l) = l := by
  unfold lamL
  by_cases h1 : l = k
  · subst h1
    by_cases h2 : m = l
    · subst h2; simp
    · simp [h2]
  · by_cases h2 : l = m
    · subst h2
      simp [h1]
    · simp [h1, h2]
theorem lamL_inj {k m a b : Int} (h : lamL k m a = lamL k m b) : a = b := by rw [← lamL_inv k m a, h, lamL_inv]

def swI (k m : Int) (x : Ins) : Ins := if 0 ≤ x.op ∧ x.op ≤ 3 then { x with loc := lamL k m x.loc } else x
theorem swI_op (k m : Int) (x : Ins) : (swI k m x).op = x.op := by unfold swI; split <;> rfl
theorem swI_reg (k m : Int) (x : Ins) : (swI k m x).reg = x.reg := by unfold swI; split <;> rfl
theorem swI_val (k m : Int) (x : Ins) : (swI k m x).val = x.val := by unfold swI; split <;> rfl
theorem swI_mode (k m : Int) (x : Ins) : (swI k m x).mode = x.mode := by unfold swI; split <;> rfl
theorem swI_loc {k m : Int} {x : Ins} (h : 0 ≤ x.op ∧ x.op ≤ 3) : (swI k m x).loc = lamL k m x.loc := by unfold swI; rw [if_pos h]
theorem swI_inv (k m : Int) (x : Ins) : swI k m (swI k m x) = x := by
  by_cases h : 0 ≤ x.op ∧ x.op ≤ 3
  · have h1 : swI k m x = { x with loc := lamL k m x.loc } := by unfold swI; rw [if_pos h]
    rw [h1]
    unfold swI
    rw [if_pos h]
    simp only [lamL_inv]
  · have h1 : swI k m x = x := by unfold swI; rw [if_neg h]
    rw [h1, h1]
theorem sw_inv (k m : Int) (l : List Ins) : (l.map (swI k m)).map (swI k m) = l := by
  rw [List.map_map]
  conv => rhs; rw [← List.map_id l]
  refine List.map_congr_left fun x _ => ?_
  exact swI_inv k m x

/-- A test whose threads and locations have changed places. -/
structure Ren (T T' : List (List Ins)) (σ : Nat → Nat) (k m : Int) : Prop where
  len : T'.length = T.length
  inv : ∀ a, a < T.length → σ a < T.length ∧ σ (σ a) = a
  row : ∀ (a : Nat) (l : List Ins), T[a]? = some l → T'[σ a]? = some (l.map (swI k m))

theorem Ren.symm {T T' : List (List Ins)} {σ : Nat → Nat} {k m : Int} (h : Ren T T' σ k m) : Ren T' T σ k m := by
  refine ⟨h.len.symm, fun a ha => by rw [h.len] at ha ⊢; exact h.inv a ha, fun a l hl => ?_⟩
  have ha : a < T.length := by rw [← h.len]; exact (List.getElem?_eq_some_iff.1 hl).1
  obtain ⟨h1, h2⟩ := h.inv a ha
  obtain ⟨l0, hl0⟩ := get_of_lt h1
  have := h.row (σ a) l0 hl0
  rw [h2, hl] at this
  cases this
  rw [sw_inv]
  exact hl0

/-- Where a thread's events begin. -/
def offT (T : List (List Ins)) (a : Nat) : Nat := (evsT (T.take a) 0).length

theorem evsT_cut {T : List (List Ins)} {a : Nat} {l : List Ins} (h : T[a]? = some l) (o : Nat) : evsT T o = evsT (T.take a) o ++ (evsI (o + a) l 0 ++ evsT (T.drop (a + 1)) (o + a + 1)) := by
  induction a generalizing T o with
  | zero =>
    cases T with
    | nil => simp at h
    | cons x T => simp at h; subst h; rfl
  | succ a ih =>
    cases T with
    | nil => simp at h
    | cons x T =>
      have := ih (T := T) (by simpa using h) (o + 1)
      rw [List.take_succ_cons, List.drop_succ_cons, evsT, evsT, this, List.append_assoc, show o + 1 + a = o + (a + 1) by omega]

theorem ev_at {T : List (List Ins)} {a r : Nat} {l : List Ins} {y : Evt} (h : T[a]? = some l) (hr : (evsI a l 0)[r]? = some y) : (evsT T 0)[offT T a + r]? = some y := by
  have hlt := (List.getElem?_eq_some_iff.1 hr).1
  rw [evsT_cut h 0, Nat.zero_add, List.getElem?_append_right (by unfold offT; omega)]
  unfold offT
  rw [Nat.add_sub_cancel_left, List.getElem?_append_left hlt]
  exact hr

theorem evsI_thread {i : Nat} {l : List Ins} {j : Nat} {y : Evt} (h : y ∈ evsI i l j) : y.thread = (i : Int) := by
  induction l generalizing j with
  | nil => cases h
  | cons x l ih =>
    rcases List.mem_append.1 h with h | h
    · unfold evsK at h
      obtain ⟨q, _, rfl⟩ := List.mem_map.1 h
      rfl
    · exact ih h

theorem ev_find0 {T : List (List Ins)} {o e : Nat} {y : Evt} (h : (evsT T o)[e]? = some y) : ∃ (a : Nat) (l : List Ins) (r : Nat), T[a]? = some l ∧ (evsI (o + a) l 0)[r]? = some y ∧ e = (evsT (T.take a) o).length + r := by
  induction T generalizing o e with
  | nil => simp [evsT] at h
  | cons x T ih =>
    rw [evsT] at h
    by_cases he : e < (evsI o x 0).length
    · rw [List.getElem?_append_left he] at h
      exact ⟨0, x, e, rfl, h, by simp [evsT]⟩
    · rw [List.getElem?_append_right (by omega)] at h
      obtain ⟨a, l, r, h1, h2, h3⟩ := ih h
      refine ⟨a + 1, l, r, by simpa using h1, by rw [show o + (a + 1) = o + 1 + a by omega]; exact h2, ?_⟩
      rw [List.take_succ_cons, evsT, List.length_append]
      omega

theorem ev_find {T : List (List Ins)} {e : Nat} {y : Evt} (h : (evsT T 0)[e]? = some y) : ∃ (a : Nat) (l : List Ins) (r : Nat), T[a]? = some l ∧ (evsI a l 0)[r]? = some y ∧ e = offT T a + r ∧ y.thread = (a : Int) := by
  obtain ⟨a, l, r, h1, h2, h3⟩ := ev_find0 h
  rw [Nat.zero_add] at h2
  exact ⟨a, l, r, h1, h2, h3, evsI_thread (List.mem_of_getElem? h2)⟩

/-- An event, in another thread and with locations changed about. -/
def trE (k m : Int) (a : Nat) (y : Evt) : Evt := ⟨(a : Int), y.place, y.kind, (swI k m y.ins).loc, swI k m y.ins⟩

theorem evsI_tr (k m : Int) (a b : Nat) (l : List Ins) (j : Nat) : evsI a (l.map (swI k m)) j = (evsI b l j).map (trE k m a) := by
  induction l generalizing j with
  | nil => rfl
  | cons x l ih =>
    rw [List.map_cons, evsI, evsI, List.map_append, ih, swI_op]
    congr 1
    unfold evsK
    rw [List.map_map]
    rfl

def piE (T T' : List (List Ins)) (σ : Nat → Nat) (e : Nat) : Nat := match (evsT T 0)[e]? with
  | none => e
  | some y => offT T' (σ y.thread.toNat) + (e - offT T y.thread.toNat)

theorem piE_at {T T' : List (List Ins)} {σ : Nat → Nat} {a r : Nat} {l : List Ins} {y : Evt} (h : T[a]? = some l) (hr : (evsI a l 0)[r]? = some y) : piE T T' σ (offT T a + r) = offT T' (σ a) + r := by
  unfold piE
  rw [ev_at h hr]
  simp only [evsI_thread (List.mem_of_getElem? hr), Int.toNat_natCast]
  omega

theorem ren_ev {T T' : List (List Ins)} {σ : Nat → Nat} {k m : Int} (hR : Ren T T' σ k m) {e : Nat} {y : Evt} (h : (evsT T 0)[e]? = some y) : (evsT T' 0)[piE T T' σ e]? = some (trE k m (σ y.thread.toNat) y) := by
  obtain ⟨a, l, r, h1, h2, rfl, h4⟩ := ev_find h
  rw [piE_at h1 h2, h4, Int.toNat_natCast]
  refine ev_at (hR.row a l h1) ?_
  rw [evsI_tr k m (σ a) a, List.getElem?_map, h2]
  rfl

theorem piE_lt {T T' : List (List Ins)} {σ : Nat → Nat} {k m : Int} (hR : Ren T T' σ k m) {e : Nat} (h : e < (evsT T 0).length) : piE T T' σ e < (evsT T' 0).length := by
  obtain ⟨y, hy⟩ := get_of_lt h
  exact (List.getElem?_eq_some_iff.1 (ren_ev hR hy)).1

theorem piE_inv {T T' : List (List Ins)} {σ : Nat → Nat} {k m : Int} (hR : Ren T T' σ k m) {e : Nat} (h : e < (evsT T 0).length) : piE T' T σ (piE T T' σ e) = e := by
  obtain ⟨y, hy⟩ := get_of_lt h
  obtain ⟨a, l, r, h1, h2, rfl, h4⟩ := ev_find hy
  rw [piE_at h1 h2]
  have h3 : (evsI (σ a) (l.map (swI k m)) 0)[r]? = some (trE k m (σ a) y) := by
    rw [evsI_tr k m (σ a) a, List.getElem?_map, h2]
    rfl
  rw [piE_at (hR.row a l h1) h3, (hR.inv a (List.getElem?_eq_some_iff.1 h1).1).2]

theorem piE_inj {T T' : List (List Ins)} {σ : Nat → Nat} {k m : Int} (hR : Ren T T' σ k m) {a b : Nat} (ha : a < (evsT T 0).length) (hb : b < (evsT T 0).length) (h : piE T T' σ a = piE T T' σ b) : a = b := by
  rw [← piE_inv hR ha, h, piE_inv hR hb]

theorem nodup_map_on {α β : Type} {f : α → β} {l : List α} (h : ∀ a ∈ l, ∀ b ∈ l, f a = f b → a = b) (hn : l.Nodup) : (l.map f).Nodup := by
  induction l with
  | nil => exact List.nodup_nil
  | cons a l ih =>
    obtain ⟨h1, h2⟩ := List.nodup_cons.1 hn
    rw [List.map_cons, List.nodup_cons]
    refine ⟨fun hm => ?_, ih (fun x hx y hy => h x (List.mem_cons_of_mem _ hx) y (List.mem_cons_of_mem _ hy)) h2⟩
    obtain ⟨b, hb, e⟩ := List.mem_map.1 hm
    have := h b (List.mem_cons_of_mem _ hb) a (List.mem_cons_self ..) e
    exact h1 (this ▸ hb)

theorem ren_le {T T' : List (List Ins)} {σ : Nat → Nat} {k m : Int} (hR : Ren T T' σ k m) : (evsT T 0).length ≤ (evsT T' 0).length := by
  have := nodup_le (l := (List.range (evsT T 0).length).map fun e => ((piE T T' σ e : Nat) : Int)) (m := (List.range (evsT T' 0).length).map fun e => ((e : Nat) : Int)) ?_ ?_
  · simpa using this
  · refine nodup_map_on ?_ List.nodup_range
    intro a ha b hb e
    exact piE_inj hR (List.mem_range.1 ha) (List.mem_range.1 hb) (by omega)
  · intro x hx
    obtain ⟨e, he, rfl⟩ := List.mem_map.1 hx
    exact List.mem_map.2 ⟨_, List.mem_range.2 (piE_lt hR (List.mem_range.1 he)), rfl⟩
theorem ren_len {T T' : List (List Ins)} {σ : Nat → Nat} {k m : Int} (hR : Ren T T' σ k m) : (evsT T' 0).length = (evsT T 0).length := Nat.le_antisymm (ren_le hR.symm) (ren_le hR)

theorem piE_mono {T T' : List (List Ins)} {σ : Nat → Nat} {a b : Nat} {ya yb : Evt} (ha : (evsT T 0)[a]? = some ya) (hb : (evsT T 0)[b]? = some yb) (ht : ya.thread = yb.thread) (h : a < b) : piE T T' σ a < piE T T' σ b := by
  obtain ⟨i, l, r, h1, h2, rfl, h4⟩ := ev_find ha
  obtain ⟨i', l', r', h1', h2', rfl, h4'⟩ := ev_find hb
  have : i = i' := by rw [h4, h4'] at ht; omega
  subst this
  rw [piE_at h1 h2, piE_at h1' h2']
  omega

end Go.Proofs.Ytomijmikkbhgmab

namespace Go.Proofs.Ytomijmikkbhgmab

def piI (T T' : List (List Ins)) (σ : Nat → Nat) (f : Int) : Int := if f < 0 then f else ((piE T T' σ f.toNat : Nat) : Int)
theorem piI_nat (T T' : List (List Ins)) (σ : Nat → Nat) (a : Nat) : piI T T' σ (a : Int) = ((piE T T' σ a : Nat) : Int) := by
  unfold piI
  rw [if_neg (by omega), Int.toNat_natCast]
theorem piI_neg (T T' : List (List Ins)) (σ : Nat → Nat) : piI T T' σ (-1) = -1 := by
  unfold piI
  rw [if_pos (by omega)]

def phiX (T T' : List (List Ins)) (σ : Nat → Nat) (k m : Int) (x : Exe) : Exe :=
  ⟨(rdsX (evsT T' 0) 0).map fun p => piI T T' σ (srcS (evsT T 0) x (piE T' T σ p.1)), (List.range 3).map fun l : Nat => (ordAt x (lamL k m (l : Int))).map (piI T T' σ)⟩

theorem ev_loc {T : List (List Ins)} {e : Nat} {y : Evt} (h : (evsT T 0)[e]? = some y) (hk : y.kind = 0 ∨ y.kind = 1) (k m : Int) (a : Nat) : (trE k m a y).loc = lamL k m y.loc := by
  obtain ⟨_, _, _, _, _, _, _, _, h1, h2⟩ := evsT_mem (List.mem_of_getElem? h)
  have hop : 0 ≤ y.ins.op ∧ y.ins.op ≤ 3 := by
    unfold kindsOf at h2
    by_cases c0 : y.ins.op = 0
    · omega
    · by_cases c1 : y.ins.op = 1
      · omega
      · by_cases c2 : y.ins.op = 2
        · omega
        · by_cases c3 : y.ins.op = 3
          · omega
          · simp only [c0, c1, c2, c3, beq_iff_eq, Bool.or_eq_true, or_self, if_false] at h2
            repeat' split at h2
            all_goals simp at h2
            all_goals omega
  show (swI k m y.ins).loc = _
  rw [swI_loc hop, h1]

theorem lamL_ok {k m l : Int} (hk : locB k = true) (hm : locB m = true) (hl : locB l = true) : locB (lamL k m l) = true := by
  unfold lamL
  split
  · exact hm
  · split
    · exact hk
    · exact hl

theorem phi_ord {T T' : List (List Ins)} {σ : Nat → Nat} {k m : Int} {x : Exe} {loc : Int} (hl : locB loc = true) : ordAt (phiX T T' σ k m x) loc = (ordAt x (lamL k m loc)).map (piI T T' σ) := by
  unfold locB at hl
  simp only [Bool.and_eq_true, decide_eq_true_eq] at hl
  obtain ⟨j, rfl⟩ := Int.eq_ofNat_of_zero_le hl.1
  have hj : j < 3 := by omega
  show ((List.range 3).map fun l : Nat => (ordAt x (lamL k m (l : Int))).map (piI T T' σ)).getD (j : Int).toNat [] = _
  rw [Int.toNat_natCast, List.getD_eq_getElem?_getD, List.getElem?_map, List.getElem?_range hj]
  rfl

/-- All that is known of a test and of its other one. -/
structure Rn (T T' : List (List Ins)) (σ : Nat → Nat) (k m : Int) : Prop where
  r : Ren T T' σ k m
  f : Fits T
  f' : Fits T'
  hk : locB k = true
  hm : locB m = true
theorem Rn.symm {T T' : List (List Ins)} {σ : Nat → Nat} {k m : Int} (h : Rn T T' σ k m) : Rn T' T σ k m := ⟨h.r.symm, h.f', h.f, h.hk, h.hm⟩

theorem phi_isEx {T T' : List (List Ins)} {σ : Nat → Nat} {k m : Int} (h : Rn T T' σ k m) {x : Exe} (hx : IsEx (evsT T 0) x) : IsEx (evsT T' 0) (phiX T T' σ k m x) := by
  have hr := hx.ranks h.f.el h.f.locs
  refine ⟨by show ((rdsX (evsT T' 0) 0).map _).length = _; rw [List.length_map], fun q hq => ?_, by show ((List.range 3).map _).length = 3; simp, fun j l hl => ?_⟩
  · rw [show (phiX T T' σ k m x).from' = (rdsX (evsT T' 0) 0).map fun p => piI T T' σ (srcS (evsT T 0) x (piE T' T σ p.1)) from rfl, zip_self] at hq
    obtain ⟨p, hp, rfl⟩ := List.mem_map.1 hq
    obtain ⟨_, h1, h2⟩ := rdsX_mem hp
    rw [Nat.sub_zero] at h1
    have hy := ren_ev h.r.symm h1
    have hyl := ev_loc h1 (.inl h2) k m (σ p.2.thread.toNat)
    rcases hr.read _ _ hy h2 with ⟨s1, _⟩ | ⟨a, q', s1, s2, s3, _⟩
    · refine .inl ?_
      show piI T T' σ (srcS (evsT T 0) x (piE T' T σ p.1)) = -1
      have s1' : srcS (evsT T 0) x (piE T' T σ p.1) = -1 := s1
      rw [s1', piI_neg]
    · refine .inr ?_
      show piI T T' σ (srcS (evsT T 0) x (piE T' T σ p.1)) ∈ wrs (evsT T' 0) 0 p.2.loc
      have s1' : srcS (evsT T 0) x (piE T' T σ p.1) = (a : Int) := s1
      rw [s1', piI_nat]
      have hlb := h.f.locs _ (List.mem_of_getElem? hy)
      obtain ⟨i, ya, e1, e2, e3, e4⟩ := (hr.mem _ hlb (a : Int)).1 (List.mem_of_getElem? s3)
      have hai : a = i := by omega
      subst hai
      refine wrs_iff.2 ⟨_, _, ren_ev h.r e1, rfl, e3, ?_⟩
      rw [ev_loc e1 (.inr e3), e4, hyl, lamL_inv]
  · have hl' : ((List.range 3).map fun l : Nat => (ordAt x (lamL k m (l : Int))).map (piI T T' σ))[j]? = some l := hl
    have hj : j < 3 := by have := (List.getElem?_eq_some_iff.1 hl').1; simpa using this
    rw [List.getElem?_map, List.getElem?_range hj] at hl'
    simp at hl'
    subst hl'
    have hjl : locB (j : Int) = true := by unfold locB; simp; omega
    have hlb := lamL_ok h.hk h.hm hjl
    obtain ⟨hnd, _⟩ := hr.nd _ hlb
    have hmem := hr.mem _ hlb
    refine ⟨nodup_map_on (fun a ha b hb e => ?_) hnd, fun a => ?_⟩
    · obtain ⟨i, _, e1, rfl, _, _⟩ := (hmem a).1 ha
      obtain ⟨i', _, e1', rfl, _, _⟩ := (hmem b).1 hb
      rw [piI_nat, piI_nat] at e
      have := piE_inj h.r (List.getElem?_eq_some_iff.1 e1).1 (List.getElem?_eq_some_iff.1 e1').1 (by omega)
      rw [this]
    · rw [List.mem_map, wrs_iff]
      constructor
      · rintro ⟨b, hb, rfl⟩
        obtain ⟨i, y, e1, rfl, e3, e4⟩ := (hmem b).1 hb
        rw [piI_nat]
        exact ⟨_, _, ren_ev h.r e1, rfl, e3, by rw [ev_loc e1 (.inr e3), e4, lamL_inv]⟩
      · rintro ⟨i, y, e1, rfl, e3, e4⟩
        have hy := ren_ev h.r.symm e1
        refine ⟨((piE T' T σ i : Nat) : Int), (hmem _).2 ⟨_, _, hy, rfl, e3, by rw [ev_loc e1 (.inr e3), e4]⟩, ?_⟩
        rw [piI_nat, piE_inv h.r.symm (List.getElem?_eq_some_iff.1 e1).1]

abbrev rkX (E : List Evt) (x : Exe) : Nat → Int := rankG E.length (srcL E x.from') x.order

theorem phi_src {T T' : List (List Ins)} {σ : Nat → Nat} {k m : Int} (h : Rn T T' σ k m) {x : Exe} (hx : IsEx (evsT T 0) x) {e : Nat} (he : e < (evsT T 0).length) : srcS (evsT T' 0) (phiX T T' σ k m x) (piE T T' σ e) = piI T T' σ (srcS (evsT T 0) x e) := by
  have hr := hx.ranks h.f.el h.f.locs
  have hr' := (phi_isEx h hx).ranks h.f'.el h.f'.locs
  obtain ⟨y, hy⟩ := get_of_lt he
  have hy' := ren_ev h.r hy
  by_cases hk : y.kind = 0
  · have hz := (hr'.zip _ _ _).2 ⟨hy', hk, rfl⟩
    rw [show (phiX T T' σ k m x).from' = (rdsX (evsT T' 0) 0).map fun p => piI T T' σ (srcS (evsT T 0) x (piE T' T σ p.1)) from rfl, zip_self] at hz
    obtain ⟨p, hp, e1⟩ := List.mem_map.1 hz
    have e2 := congrArg (fun q => q.2) e1
    have e3 := congrArg (fun q => q.1.1) e1
    simp only at e2 e3
    rw [e3, piE_inv h.r he] at e2
    exact e2.symm
  · have h1 := hr.other e y hy hk
    have h2 := hr'.other _ _ hy' hk
    have h1' : srcS (evsT T 0) x e = -1 := h1
    rw [h1', piI_neg]
    exact h2

theorem phi_rank {T T' : List (List Ins)} {σ : Nat → Nat} {k m : Int} (h : Rn T T' σ k m) {x : Exe} (hx : IsEx (evsT T 0) x) {e : Nat} {y : Evt} (hy : (evsT T 0)[e]? = some y) (hk : y.kind = 0 ∨ y.kind = 1) : rkX (evsT T' 0) (phiX T T' σ k m x) (piE T T' σ e) = rkX (evsT T 0) x e := by
  have hr := hx.ranks h.f.el h.f.locs
  have hr' := (phi_isEx h hx).ranks h.f'.el h.f'.locs
  have he := (List.getElem?_eq_some_iff.1 hy).1
  have hy' := ren_ev h.r hy
  have hyl := ev_loc hy hk k m (σ y.thread.toNat)
  have hlb := h.f.locs y (List.mem_of_getElem? hy)
  have hlb' := lamL_ok h.hk h.hm hlb
  have hord : ordAt (phiX T T' σ k m x) (lamL k m y.loc) = (ordAt x y.loc).map (piI T T' σ) := by rw [phi_ord hlb', lamL_inv]
  obtain ⟨hnd', _⟩ := hr'.nd _ hlb'
  have hS := phi_src h hx he
  rcases hk with hk | hk
  · rcases hr.read e y hy hk with ⟨s1, s2⟩ | ⟨a, q, s1, s2, s3, s4⟩
    · rcases hr'.read _ _ hy' hk with ⟨_, t2⟩ | ⟨a', q', t1, _, _, _⟩
      · exact t2.trans s2.symm
      · exfalso
        have s1' : srcS (evsT T 0) x e = -1 := s1
        have t1' : srcS (evsT T' 0) (phiX T T' σ k m x) (piE T T' σ e) = (a' : Int) := t1
        rw [s1', piI_neg, t1'] at hS
        omega
    · have s1' : srcS (evsT T 0) x e = (a : Int) := s1
      rw [s1', piI_nat] at hS
      rcases hr'.read _ _ hy' hk with ⟨t1, _⟩ | ⟨a', q', t1, _, t3, t4⟩
      · exfalso
        have t1' : srcS (evsT T' 0) (phiX T T' σ k m x) (piE T T' σ e) = -1 := t1
        rw [t1'] at hS
        omega
      · have t1' : srcS (evsT T' 0) (phiX T T' σ k m x) (piE T T' σ e) = (a' : Int) := t1
        rw [t1'] at hS
        rw [hyl, hord] at t3
        have u3 : ((ordAt x y.loc).map (piI T T' σ))[q]? = some (a' : Int) := by rw [List.getElem?_map, s3, Option.map_some, piI_nat, hS]
        rw [hord] at hnd'
        have := pos_eq hnd' u3 t3
        subst this
        exact t4.trans s4.symm
  · obtain ⟨q, s3, s4⟩ := hr.write e y hy hk
    obtain ⟨q', t3, t4⟩ := hr'.write _ _ hy' hk
    rw [hyl, hord] at t3
    have u3 : ((ordAt x y.loc).map (piI T T' σ))[q]? = some ((piE T T' σ e : Nat) : Int) := by rw [List.getElem?_map, s3, Option.map_some, piI_nat]
    rw [hord] at hnd'
    have := pos_eq hnd' u3 t3
    subst this
    exact t4.trans s4.symm

end Go.Proofs.Ytomijmikkbhgmab
