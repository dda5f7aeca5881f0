import Derived.Test.YtomijmikkbhgmaaGreatT35
import Derived.Test.YtomijmikkbhgmaaGreatT19
namespace Go.Proofs.YtomijmikkbhgmaaGreat

theorem coh_same : cohP = cohQ := by
  funext i j a b
  unfold cohP cohQ sameB
  cases memB a.kind <;> cases memB b.kind <;> cases (a.thread == b.thread) <;> cases (a.loc == b.loc) <;> rfl

theorem mark_same (a b : Evt) : markB a b = (modB a b || mrkB a b) := by
  unfold markB modB mrkB
  generalize (a.kind == 2) = p1
  generalize (a.kind == 4) = p2
  generalize (a.kind == 5) = p3
  generalize (b.kind == 3) = p4
  generalize (b.kind == 4) = p5
  generalize (b.kind == 5) = p6
  generalize (a.kind == 0 && a.ins.mode == 1) = p7
  generalize (b.kind == 1 && b.ins.mode == 2) = p8
  cases p1 <;> cases p2 <;> cases p3 <;> cases p4 <;> cases p5 <;> cases p6 <;> cases p7 <;> cases p8 <;> rfl

theorem last_same {T : List (List Ins)} {E : List Evt} (hE : E = evsT T 0) {i j : Nat} {a b : Evt} (hij : i < j) (hi : E[i]? = some a) (hj : E[j]? = some b) : lastB E i j b = (swapB a b || cpyB E i j b) := by
  have hsw : SwOk E := by rw [hE]; exact swOk_T T 0
  have hs : swapB a b = true → b.ins.op = 3 ∧ b.kind = 1 ∧ j = i + 1 := by
    intro h
    unfold swapB at h
    simp only [Bool.and_eq_true, beq_iff_eq] at h
    obtain ⟨⟨⟨h1, h2⟩, h3⟩, h4⟩ := h
    obtain ⟨k1, k2, k3, _⟩ := hsw.s3 i j a b hij hi hj h1 h2 h3 h4
    exact ⟨by rw [k3]; exact k2, h4, k1⟩
  unfold lastB cpyB
  by_cases h1 : b.ins.op = 1
  · have hk : b.kind = 1 := copy_kind (T := T) (by rw [← hE]; exact List.mem_of_getElem? hj) h1
    have hns : swapB a b = false := by
      cases hh : swapB a b
      · rfl
      · have := (hs hh).1; omega
    rw [hns, h1, hk]
    simp only [beq_self_eq_true, Bool.true_and, Bool.false_or, if_true]
    rw [Bool.eq_iff_iff]
    simp only [beq_iff_eq]
    exact eq_comm
  · have hn1 : (b.ins.op == 1) = false := by simpa using h1
    rw [hn1]
    simp only [Bool.false_and, Bool.or_false, Bool.false_eq_true, if_false]
    rw [Bool.eq_iff_iff]
    simp only [Bool.and_eq_true, beq_iff_eq]
    constructor
    · rintro ⟨h2, h3, h4⟩
      obtain ⟨r, r1, r2⟩ := hsw.s2 j b hj h2 h3
      have hri : r = i := by omega
      subst hri
      rw [hi] at r2
      cases r2
      unfold swapB
      simp [h2]
    · intro h
      obtain ⟨k1, k2, k3⟩ := hs h
      exact ⟨k2, k1, by omega⟩

theorem kept_same {T : List (List Ins)} {E : List Evt} (hE : E = evsT T 0) {i j : Nat} (hij : i < j) : pairB E (keepP T E) i j = pairB E (keepQ T E) i j := by
  unfold pairB
  cases hi : E[i]? with
  | none => rfl
  | some a =>
    cases hj : E[j]? with
    | none => rfl
    | some b =>
      show keepP T E i j a b = keepQ T E i j a b
      unfold keepP keepQ keepB kepB
      rw [mark_same, last_same hE hij hi hj]
      generalize fenB (T.getD a.thread.toNat []) a b = p1
      generalize modB a b = p2
      generalize mrkB a b = p3
      generalize swapB a b = p4
      generalize cpyB E i j b = p5
      cases p1 <;> cases p2 <;> cases p3 <;> cases p4 <;> cases p5 <;> rfl

theorem torn_same {T : List (List Ins)} {E : List Evt} (hE : E = evsT T 0) (hloc : ∀ y ∈ E, locB y.loc = true) {x : Exe} {S R : Nat → Int} (h : Ranks E x S R) : tornB E x = tornQ (torQ E R) E.length := by
  have hsw : SwOk E := by rw [hE]; exact swOk_T T 0
  -- a Swap: its Read r, its Write r + 1
  have key : ∀ (r : Nat) (y z : Evt), E[r]? = some y → y.kind = 0 → E[r + 1]? = some z → z.kind = 1 → z.loc = y.loc → (headNe (restL (ordAt x y.loc) (S r)) ((r : Int) + 1) = true ↔ R (r + 1) ≠ R r + 1) := by
    intro r y z hr hk hz hzk hzl
    have hl := hloc y (List.mem_of_getElem? hr)
    obtain ⟨hnd, _⟩ := h.nd y.loc hl
    obtain ⟨q, q1, q2⟩ := h.write (r + 1) z hz hzk
    rw [hzl] at q1
    have hcast : ((r : Int) + 1) = ((r + 1 : Nat) : Int) := by omega
    rw [hcast]
    have hdrop : ∀ k : Nat, headNe ((ordAt x y.loc).drop k) ((r + 1 : Nat) : Int) = true ↔ q ≠ k := by
      intro k
      by_cases hkl : k < (ordAt x y.loc).length
      · rw [List.drop_eq_getElem_cons hkl]
        show ((ordAt x y.loc)[k] != ((r + 1 : Nat) : Int)) = true ↔ q ≠ k
        rw [bne_iff_ne]
        constructor
        · intro hne e
          subst e
          rw [List.getElem?_eq_getElem hkl] at q1
          exact hne (Option.some.inj q1)
        · intro hne e
          exact hne (pos_eq hnd q1 (by rw [List.getElem?_eq_getElem hkl, e]))
      · rw [List.drop_eq_nil_of_le (by omega)]
        have := (List.getElem?_eq_some_iff.1 q1).1
        exact ⟨fun _ => by omega, fun _ => rfl⟩
    rcases h.read r y hr hk with ⟨s1, s2⟩ | ⟨f, qf, s1, _, s3, s4⟩
    · rw [s1]
      unfold restL
      rw [if_pos (by simp)]
      have h0 := hdrop 0
      rw [List.drop_zero] at h0
      rw [h0, q2, s2]
      constructor <;> intro h <;> omega
    · rw [s1]
      unfold restL
      rw [if_neg (by first | (simp; done) | (simp; omega)), restG_drop hnd s3, hdrop (qf + 1), q2, s4]
      constructor <;> intro h <;> omega
  rw [Bool.eq_iff_iff]
  unfold tornB tornQ
  rw [List.any_eq_true, List.any_eq_true]
  constructor
  · rintro ⟨⟨⟨r, y⟩, f⟩, hq, ht⟩
    obtain ⟨z1, z2, z3⟩ := (h.zip r y f).1 hq
    unfold torn1 at ht
    simp only [Bool.and_eq_true, beq_iff_eq] at ht
    obtain ⟨ho, hh⟩ := ht
    have hs1 := hsw.s1 r y z1 z2 ho
    rw [← z3] at hh
    have hne := (key r y _ z1 z2 hs1 rfl rfl).1 hh
    refine ⟨r + 1, by rw [List.mem_range]; exact (List.getElem?_eq_some_iff.1 hs1).1, ?_⟩
    rw [List.any_eq_true]
    refine ⟨r, by simp, ?_⟩
    have : torQ E R r (r + 1) = (swapB y { y with kind := 1 } && (R (r + 1) != R r + 1)) := pairB_get z1 hs1 _
    rw [this]
    unfold swapB
    simp [z2]
    exact hne
  · rintro ⟨j, hj, ht⟩
    rw [List.any_eq_true] at ht
    obtain ⟨i, hi, ht⟩ := ht
    have hjl : j < E.length := by simpa using hj
    have hij : i < j := by simpa using hi
    obtain ⟨a, ha⟩ : ∃ y, E[i]? = some y := ⟨E[i], List.getElem?_eq_getElem (by omega)⟩
    obtain ⟨b, hb⟩ : ∃ y, E[j]? = some y := ⟨E[j], List.getElem?_eq_getElem hjl⟩
    have hq : torQ E R i j = (swapB a b && (R j != R i + 1)) := pairB_get ha hb _
    rw [hq] at ht
    unfold swapB at ht
    simp only [Bool.and_eq_true, beq_iff_eq, bne_iff_ne] at ht
    obtain ⟨⟨⟨⟨h1, h2⟩, h3⟩, h4⟩, h5⟩ := ht
    obtain ⟨k1, k2, k3, k4⟩ := hsw.s3 i j a b hij ha hb h1 h2 h3 h4
    subst k1
    refine ⟨((i, a), S i), (h.zip i a _).2 ⟨ha, h3, rfl⟩, ?_⟩
    unfold torn1
    simp only [Bool.and_eq_true, beq_iff_eq]
    exact ⟨k2, (key i a b ha h3 hb h4 k4).2 h5⟩

theorem JudIs.congr {P P' : Prop} {t t' : Bool} {Q Q' S : Prop} {r : Int} (h : JudIs P t Q S r) (hP : P ↔ P') (ht : t = t') (hQ : Q ↔ Q') : JudIs P' t' Q' S r := by
  have e1 : P = P' := propext hP
  have e2 : Q = Q' := propext hQ
  subst e1 e2 ht
  exact h

/-- What both judge by. -/
theorem judge_same {T : List (List Ins)} {E : List Evt} (hE : E = evsT T 0) (hl : E.length ≤ 96) (hloc : ∀ y ∈ E, locB y.loc = true) {x : Exe} (hx : IsEx E x) :
    (Cyc E.length (cohB E x) ↔ Cyc E.length (cohA E x)) ∧ tornQ (torQ E (rankG E.length (srcL E x.from') x.order)) E.length = tornB E x ∧ (Cyc E.length (kepQ T E x) ↔ Cyc E.length (kepA T E x)) := by
  have hr := hx.ranks hl hloc
  refine ⟨Cyc.iff fun a b ha hb => ?_, (torn_same hE hloc hr).symm, Cyc.iff fun a b ha hb => ?_⟩
  · unfold cohB cohA exQ
    rw [List.mem_append, List.mem_append, exec_iff hloc hr ha hb, allU_mem, allD_mem, coh_same]
  · unfold kepQ kepA exQ
    rw [List.mem_append, List.mem_append, exec_iff hloc hr ha hb, allU_mem, allD_mem]
    constructor
    · rintro (h | ⟨h1, h2, h3⟩)
      · exact .inl h
      · exact .inr ⟨h1, h2, by rw [kept_same hE h2]; exact h3⟩
    · rintro (h | ⟨h1, h2, h3⟩)
      · exact .inl h
      · exact .inr ⟨h1, h2, by rw [← kept_same hE h2]; exact h3⟩

/-- No sections, or no Syncs. -/
def openB (T : List (List Ins)) : Bool := cntO 5 T == 0 || cntO 7 T == 0

theorem thoL_len (kd : Int) (E : List Evt) (i : Nat) : (thoL kd E i).length = cntK kd E := by
  induction E generalizing i with
  | nil => rfl
  | cons x E ih =>
    unfold cntK at ih ⊢
    cases h : x.kind == kd
    · rw [thoL_mis h, ih, List.filter_cons, h]; rfl
    · rw [thoL_hit h, List.length_cons, ih, List.filter_cons, h]; rfl

theorem open_none {T : List (List Ins)} (h : openB T = true) : (thoL 2 (evsT T 0) 0).length = 0 ∨ (thoL 4 (evsT T 0) 0).length = 0 := by
  unfold openB at h
  rw [thoL_len, thoL_len, cntK_evsT 5 2 kinds_enter, cntK_evsT 7 4 kinds_sync]
  simpa using h

end Go.Proofs.YtomijmikkbhgmaaGreat

namespace Go.Proofs.YtomijmikkbhgmaaGreat

/-- A section and a Sync: Begin, End, Start, Finish. -/
structure Mt where
  (b e s f : Int)

def pick (β : Bool) (m : Mt) : Int × Int := if β then (m.s, m.b) else (m.e, m.f)

/-- Can one choose, pair by pair, without a circle? -/
def Parts (n : Nat) : List Mt → List (Int × Int) → Prop
  | [], A => ¬ Cyc n A
  | m :: ms, A => ¬ Cyc n A ∧ (Parts n ms (A ++ [pick false m]) ∨ Parts n ms (A ++ [pick true m]))

def chS (β : Nat → Bool) : List Mt → List (Int × Int)
  | [] => []
  | m :: ms => pick (β 0) m :: chS (fun i => β (i + 1)) ms

theorem parts_iff (n : Nat) (ms : List Mt) (A : List (Int × Int)) : Parts n ms A ↔ ∃ β, ¬ Cyc n (A ++ chS β ms) := by
  induction ms generalizing A with
  | nil =>
    show ¬ Cyc n A ↔ _
    constructor
    · intro h; exact ⟨fun _ => false, by simpa [chS] using h⟩
    · rintro ⟨_, h⟩; simpa [chS] using h
  | cons m ms ih =>
    show ¬ Cyc n A ∧ (_ ∨ _) ↔ _
    rw [ih, ih]
    constructor
    · rintro ⟨_, ⟨β, h⟩ | ⟨β, h⟩⟩
      · refine ⟨fun i => match i with | 0 => false | i + 1 => β i, ?_⟩
        simpa [chS] using h
      · refine ⟨fun i => match i with | 0 => true | i + 1 => β i, ?_⟩
        simpa [chS] using h
    · rintro ⟨β, h⟩
      refine ⟨fun hc => h (hc.mono fun p hp => List.mem_append_left _ hp), ?_⟩
      have e : A ++ chS β (m :: ms) = (A ++ [pick (β 0) m]) ++ chS (fun i => β (i + 1)) ms := by simp [chS]
      rw [e] at h
      cases hb : β 0
      · rw [hb] at h; exact .inl ⟨_, h⟩
      · rw [hb] at h; exact .inr ⟨_, h⟩

theorem chS_congr (ms : List Mt) (β γ : Nat → Bool) (h : ∀ i, i < ms.length → β i = γ i) : chS β ms = chS γ ms := by
  induction ms generalizing β γ with
  | nil => rfl
  | cons m ms ih =>
    unfold chS
    rw [h 0 (by simp), ih (fun i => β (i + 1)) (fun i => γ (i + 1)) (fun i hi => h (i + 1) (by simp; omega))]

theorem chS_get (ms : List Mt) (β : Nat → Bool) (i : Nat) (m : Mt) (h : ms[i]? = some m) : (chS β ms)[i]? = some (pick (β i) m) := by
  induction ms generalizing β i with
  | nil => simp at h
  | cons a ms ih =>
    unfold chS
    cases i with
    | zero => simp at h; subst h; rfl
    | succ i => simpa using ih (fun i => β (i + 1)) i (by simpa using h)
theorem chS_len (ms : List Mt) (β : Nat → Bool) : (chS β ms).length = ms.length := by
  induction ms generalizing β with
  | nil => rfl
  | cons a ms ih => unfold chS; rw [List.length_cons, List.length_cons, ih]

/-- The bits of a number. -/
def bitB (c i : Nat) : Bool := c / 2 ^ i % 2 == 1

theorem bits_some (n : Nat) (β : Nat → Bool) : ∃ c, c < 2 ^ n ∧ ∀ i, i < n → bitB c i = β i := by
  induction n generalizing β with
  | zero => exact ⟨0, by simp, fun i hi => by omega⟩
  | succ n ih =>
    obtain ⟨c, hc, hb⟩ := ih (fun i => β (i + 1))
    refine ⟨2 * c + (if β 0 then 1 else 0), ?_, fun i hi => ?_⟩
    · rw [Nat.pow_succ]; split <;> omega
    · cases i with
      | zero =>
        unfold bitB
        cases β 0 <;> simp <;> omega
      | succ i =>
        have h1 := hb i (by omega)
        rw [← h1]
        unfold bitB
        have : (2 * c + (if β 0 then 1 else 0)) / 2 ^ (i + 1) = c / 2 ^ i := by
          have hp : 2 ^ (i + 1) = 2 * 2 ^ i := by rw [Nat.pow_succ, Nat.mul_comm]
          have hh : (2 * c + (if β 0 then 1 else 0)) / 2 = c := by split <;> omega
          rw [hp, ← Nat.div_div_eq_div_mul, hh]
        rw [this]

theorem parts_bits (n : Nat) (ms : List Mt) (A : List (Int × Int)) : Parts n ms A ↔ ∃ c, c < 2 ^ ms.length ∧ ¬ Cyc n (A ++ chS (bitB c) ms) := by
  rw [parts_iff]
  constructor
  · rintro ⟨β, h⟩
    obtain ⟨c, hc, hb⟩ := bits_some ms.length β
    exact ⟨c, hc, by rw [chS_congr ms (bitB c) β hb]; exact h⟩
  · rintro ⟨c, _, h⟩; exact ⟨_, h⟩

/-- Every section with every Sync. -/
def mtL (b d s : List Int) : List Mt := (b.zip d).flatMap fun p => s.map fun q => ⟨p.1, p.2, q, q + 1⟩

theorem mtL_len (b d s : List Int) (h : d.length = b.length) : (mtL b d s).length = b.length * s.length := by
  unfold mtL
  rw [flat_len _ s.length (fun _ => by simp), List.length_zip, h, Nat.min_self]

theorem mtL_get {b d s : List Int} {k j : Nat} {x y z : Int} (h1 : b[k]? = some x) (h2 : d[k]? = some y) (h3 : s[j]? = some z) : (mtL b d s)[k * s.length + j]? = some ⟨x, y, z, z + 1⟩ := by
  unfold mtL
  have hj : j < s.length := (List.getElem?_eq_some_iff.1 h3).1
  rw [flat_get _ s.length (fun _ => by simp) _ k j (x, y) (by rw [List.getElem?_zip_eq_some]; exact ⟨h1, h2⟩) hj, List.getElem?_map, h3]
  rfl

/-! as many Ends as Begins -/
theorem nst_count {l : List Ins} {j : Nat} {b : Bool} (h : nst l j b < 0) : (l.filter fun x => x.op == 5).length + (if b then 1 else 0) = (l.filter fun x => x.op == 6).length := by
  induction l generalizing j b with
  | nil =>
    cases b
    · rfl
    · simp [nst] at h; omega
  | cons x l ih =>
    rw [nst_cons7] at h
    rw [List.filter_cons, List.filter_cons]
    by_cases h5 : x.op = 5
    · simp only [h5] at h ⊢
      cases b
      · have := ih (by simpa using h)
        simp at this ⊢
        omega
      · simp at h; omega
    · by_cases h7 : x.op = 7
      · simp only [h7] at h ⊢
        cases b
        · have := ih (by simpa using h)
          simp at this ⊢
          omega
        · simp at h; omega
      · by_cases h6 : x.op = 6
        · simp only [h6] at h ⊢
          cases b
          · simp at h; omega
          · have := ih (by simpa using h)
            simp at this ⊢
            omega
        · have e5 : (x.op == 5) = false := by simpa using h5
          have e6 : (x.op == 6) = false := by simpa using h6
          have e7 : (x.op == 7) = false := by simpa using h7
          rw [e5, e6, e7] at h
          have := ih (by simpa using h)
          rw [e5, e6]
          simpa using this

theorem nstF_count {T : List (List Ins)} {i : Nat} (h : nstF T i = none) : cntO 5 T = cntO 6 T := by
  induction T generalizing i with
  | nil => rfl
  | cons l T ih =>
    unfold nstF at h
    split at h
    · cases h
    · rename_i hn
      have h1 := nst_count (l := l) (j := 0) (b := false) (by omega)
      have h2 := ih h
      rw [cntO, cntO, h2]
      simp at h1
      omega

theorem chk_nested {T : List (List Ins)} {c : List Atm} (h : ((chk T c).1 == 0) = true) : nstF T 0 = none ∧ manyB T = false := by
  unfold chk at h
  cases hs : sizeB T c
  · rw [hs] at h; simp at h
  · rw [hs] at h
    simp only [if_true] at h
    cases hi : insF T 0 with
    | some p => rw [hi] at h; simp at h
    | none =>
      rw [hi] at h
      cases hn : nstF T 0 with
      | some p => rw [hn] at h; simp at h
      | none =>
        rw [hn] at h
        cases ha : atmF c 0 T.length with
        | some p => rw [ha] at h; simp at h
        | none =>
          rw [ha] at h
          cases hm : manyB T
          · exact ⟨rfl, rfl⟩
          · rw [hm] at h; simp at h

theorem kinds_leave (o : Int) : ((kindsOf o).filter fun q => q == 3).length = if o == 6 then 1 else 0 := by
  unfold kindsOf
  repeat' split
  all_goals simp_all
theorem kinds_done (o : Int) : ((kindsOf o).filter fun q => q == 5).length = if o == 7 then 1 else 0 := by
  unfold kindsOf
  repeat' split
  all_goals simp_all

/-! a Finish right behind its Start -/
theorem thoL_append (kd : Int) (A B : List Evt) (i : Nat) : thoL kd (A ++ B) i = thoL kd A i ++ thoL kd B (i + A.length) := by
  induction A generalizing i with
  | nil => simp [thoL]
  | cons x A ih =>
    rw [List.cons_append]
    cases h : x.kind == kd
    · rw [thoL_mis h, thoL_mis h, ih, List.length_cons, show i + 1 + A.length = i + (A.length + 1) by omega]
    · rw [thoL_hit h, thoL_hit h, ih, List.length_cons, List.cons_append, show i + 1 + A.length = i + (A.length + 1) by omega]

theorem done_K (p j : Nat) (x : Ins) (i : Nat) : thoL 5 (evsK p j x (kindsOf x.op)) i = (thoL 4 (evsK p j x (kindsOf x.op)) i).map (· + 1) := by
  unfold kindsOf
  repeat' split
  all_goals first
    | rfl
    | (simp [evsK, thoL]; done)
    | (simp [evsK, thoL]; omega)

theorem done_I (p : Nat) (l : List Ins) (j i : Nat) : thoL 5 (evsI p l j) i = (thoL 4 (evsI p l j) i).map (· + 1) := by
  induction l generalizing j i with
  | nil => rfl
  | cons x l ih => rw [evsI, thoL_append, thoL_append, List.map_append, done_K, ih]

theorem done_T (T : List (List Ins)) (p i : Nat) : thoL 5 (evsT T p) i = (thoL 4 (evsT T p) i).map (· + 1) := by
  induction T generalizing p i with
  | nil => rfl
  | cons l T ih => rw [evsT, thoL_append, thoL_append, List.map_append, done_I, ih]

/-- The sections and the Syncs of a test that may be. -/
structure Mts (E : List Evt) : Prop where
  be : (thoL 3 E 0).length = (thoL 2 E 0).length
  sf : thoL 5 E 0 = (thoL 4 E 0).map (· + 1)
  b3 : (thoL 2 E 0).length ≤ 3
  s2 : (thoL 4 E 0).length ≤ 2

theorem mts_of {T : List (List Ins)} {c : List Atm} (h : ((chk T c).1 == 0) = true) : Mts (evsT T 0) := by
  obtain ⟨h1, h2⟩ := chk_nested h
  unfold manyB at h2
  simp only [Bool.or_eq_false_iff, decide_eq_false_iff_not] at h2
  refine ⟨?_, done_T T 0 0, ?_, ?_⟩
  · rw [thoL_len, thoL_len, cntK_evsT 5 2 kinds_enter, cntK_evsT 6 3 kinds_leave, nstF_count h1]
  · rw [thoL_len, cntK_evsT 5 2 kinds_enter]; omega
  · rw [thoL_len, cntK_evsT 7 4 kinds_sync]; omega

/-- Entries are numbers of events. -/
theorem thoL_mem {kd : Int} {E : List Evt} {i : Nat} {a : Int} (h : a ∈ thoL kd E i) : ∃ (k : Nat) (y : Evt), E[k]? = some y ∧ y.kind = kd ∧ a = ((i + k : Nat) : Int) := by
  induction E generalizing i with
  | nil => simp [thoL] at h
  | cons x E ih =>
    have key : a ∈ thoL kd E (i + 1) → ∃ (k : Nat) (y : Evt), (x :: E)[k]? = some y ∧ y.kind = kd ∧ a = ((i + k : Nat) : Int) := fun h => by
      obtain ⟨k, y, h1, h2, h3⟩ := ih h
      exact ⟨k + 1, y, by simpa using h1, h2, by rw [h3]; omega⟩
    cases hk : x.kind == kd
    · rw [thoL_mis hk] at h; exact key h
    · rw [thoL_hit hk] at h
      rcases List.mem_cons.1 h with rfl | h
      · exact ⟨0, x, rfl, by simpa using hk, by simp⟩
      · exact key h

theorem chS_arws {E : List Evt} (h : Mts E) (β : Nat → Bool) : Arws E.length (chS β (mtL (thoL 2 E 0) (thoL 3 E 0) (thoL 4 E 0))) := by
  have hin : ∀ m ∈ mtL (thoL 2 E 0) (thoL 3 E 0) (thoL 4 E 0), m.b ∈ thoL 2 E 0 ∧ m.e ∈ thoL 3 E 0 ∧ m.s ∈ thoL 4 E 0 ∧ m.f ∈ thoL 5 E 0 := by
    intro m hm
    unfold mtL at hm
    obtain ⟨p, hp, hm⟩ := List.mem_flatMap.1 hm
    obtain ⟨q, hq, rfl⟩ := List.mem_map.1 hm
    obtain ⟨h1, h2⟩ := List.of_mem_zip hp
    exact ⟨h1, h2, hq, by rw [h.sf]; exact List.mem_map.2 ⟨q, hq, rfl⟩⟩
  have hev : ∀ {kd a : Int}, a ∈ thoL kd E 0 → ∃ k : Nat, k < E.length ∧ a = (k : Int) := fun ha => by
    obtain ⟨k, y, h1, _, h3⟩ := thoL_mem ha
    exact ⟨k, (List.getElem?_eq_some_iff.1 h1).1, by rw [h3]; simp⟩
  intro p hp
  obtain ⟨i, hi⟩ := List.mem_iff_getElem?.1 hp
  have hl : i < (mtL (thoL 2 E 0) (thoL 3 E 0) (thoL 4 E 0)).length := by
    have := (List.getElem?_eq_some_iff.1 hi).1
    rw [chS_len] at this; exact this
  have hm := chS_get _ β i _ (List.getElem?_eq_getElem hl)
  rw [hi] at hm
  have hp' := Option.some.inj hm
  obtain ⟨h1, h2, h3, h4⟩ := hin _ (List.getElem_mem hl)
  generalize (mtL (thoL 2 E 0) (thoL 3 E 0) (thoL 4 E 0))[i] = m at *
  obtain ⟨k1, l1, e1⟩ := hev h1
  obtain ⟨k2, l2, e2⟩ := hev h2
  obtain ⟨k3, l3, e3⟩ := hev h3
  obtain ⟨k4, l4, e4⟩ := hev h4
  rw [hp']
  unfold pick
  split
  · exact ⟨k3, k1, l3, l1, by rw [e3, e1]⟩
  · exact ⟨k2, k4, l2, l4, by rw [e2, e4]⟩

/-- Parting hangs on the arrows between events alone. -/
theorem Parts.congr {n : Nat} {ms : List Mt} {A B : List (Int × Int)} (h : ∀ a b : Nat, a < n → b < n → (((a : Int), (b : Int)) ∈ A ↔ ((a : Int), (b : Int)) ∈ B)) : Parts n ms A ↔ Parts n ms B := by
  induction ms generalizing A B with
  | nil => exact not_congr (Cyc.iff h)
  | cons m ms ih =>
    have step : ∀ p : Int × Int, ∀ a b : Nat, a < n → b < n → (((a : Int), (b : Int)) ∈ A ++ [p] ↔ ((a : Int), (b : Int)) ∈ B ++ [p]) := fun p a b ha hb => by
      rw [List.mem_append, List.mem_append, h a b ha hb]
    exact and_congr (not_congr (Cyc.iff h)) (or_congr (ih (step _)) (ih (step _)))

theorem JudIs.congr' {P P' : Prop} {t t' : Bool} {Q Q' S S' : Prop} {r : Int} (h : JudIs P t Q S r) (hP : P ↔ P') (ht : t = t') (hQ : Q ↔ Q') (hS : S ↔ S') : JudIs P' t' Q' S' r := by
  have e1 : P = P' := propext hP
  have e2 : Q = Q' := propext hQ
  have e3 : S = S' := propext hS
  subst e1 e2 e3 ht
  exact h

theorem judge_same' {T : List (List Ins)} {E : List Evt} (hE : E = evsT T 0) (hl : E.length ≤ 96) (hloc : ∀ y ∈ E, locB y.loc = true) {x : Exe} (hx : IsEx E x) {ms : List Mt} :
    (Cyc E.length (cohB E x) ↔ Cyc E.length (cohA E x)) ∧ tornQ (torQ E (rankG E.length (srcL E x.from') x.order)) E.length = tornB E x ∧ (Cyc E.length (kepQ T E x) ↔ Cyc E.length (kepA T E x)) ∧ (¬ Parts E.length ms (kepQ T E x) ↔ ¬ Parts E.length ms (kepA T E x)) := by
  obtain ⟨h1, h2, h3⟩ := judge_same hE hl hloc hx
  have hr := hx.ranks hl hloc
  refine ⟨h1, h2, h3, not_congr (Parts.congr fun a b ha hb => ?_)⟩
  unfold kepQ kepA exQ
  rw [List.mem_append, List.mem_append, exec_iff hloc hr ha hb, allU_mem, allD_mem]
  constructor
  · rintro (h | ⟨h1, h2, h3⟩)
    · exact .inl h
    · exact .inr ⟨h1, h2, by rw [kept_same hE h2]; exact h3⟩
  · rintro (h | ⟨h1, h2, h3⟩)
    · exact .inl h
    · exact .inr ⟨h1, h2, by rw [← kept_same hE h2]; exact h3⟩

end Go.Proofs.YtomijmikkbhgmaaGreat

namespace Go.Proofs.YtomijmikkbhgmaaGreat

/-- A row of numbers along which the arrows between them lead. -/
def Along (A : List (Int × Int)) (L : List Nat) : Prop := ∀ (i j a b : Nat), L[i]? = some a → L[j]? = some b → ((a : Int), (b : Int)) ∈ A → i < j

theorem along_of {n : Nat} {A : List (Int × Int)} (h : ¬ Cyc n A) (m : Nat) (S : List Nat) (hm : S.length = m) (hnd : S.Nodup) (hS : ∀ a ∈ S, a < n) : ∃ L : List Nat, L.Nodup ∧ (∀ a, a ∈ L ↔ a ∈ S) ∧ Along A L := by
  induction m generalizing S with
  | zero =>
    have : S = [] := List.eq_nil_of_length_eq_zero hm
    subst this
    exact ⟨[], List.nodup_nil, fun a => Iff.rfl, fun i j a b h => by simp at h⟩
  | succ m ih =>
    have hex : ∃ b ∈ S, ∀ a ∈ S, ((a : Int), (b : Int)) ∉ A := by
      refine Classical.byContradiction fun hno => h ⟨fun a => a ∈ S, ?_, fun b hb hbS => ?_⟩
      · obtain ⟨b, hb⟩ := List.exists_mem_of_length_pos (l := S) (by omega)
        exact ⟨b, hS b hb, hb⟩
      · refine Classical.byContradiction fun h2 => hno ⟨b, hbS, fun a ha hA => h2 ⟨a, hS a ha, ha, hA⟩⟩
    obtain ⟨b, hb, hfree⟩ := hex
    obtain ⟨L, h1, h2, h3⟩ := ih (S.erase b) (by rw [List.length_erase_of_mem hb]; omega) (hnd.erase b) (fun a ha => hS a (List.mem_of_mem_erase ha))
    have hbL : b ∉ L := fun hbL => (List.Nodup.not_mem_erase hnd) ((h2 b).1 hbL)
    refine ⟨b :: L, List.nodup_cons.2 ⟨hbL, h1⟩, fun a => ?_, fun i j a c hi hj hA => ?_⟩
    · rw [List.mem_cons, h2]
      constructor
      · rintro (rfl | h)
        · exact hb
        · exact List.mem_of_mem_erase h
      · intro ha
        by_cases e : a = b
        · exact .inl e
        · exact .inr ((List.mem_erase_of_ne e).2 ha)
    · have hmem : ∀ {k : Nat} {x : Nat}, (b :: L)[k]? = some x → x ∈ S := fun {k x} hk => by
        rcases List.mem_cons.1 (List.mem_of_getElem? hk) with rfl | hx
        · exact hb
        · exact List.mem_of_mem_erase ((h2 _).1 hx)
      cases j with
      | zero =>
        have hcb : b = c := by simpa using hj
        subst hcb
        exact absurd hA (hfree a (hmem hi))
      | succ j =>
        cases i with
        | zero => omega
        | succ i =>
          have := h3 i j a c (by simpa using hi) (by simpa using hj) hA
          omega

/-- All events, in one row. -/
theorem row_of {n : Nat} {A : List (Int × Int)} (h : ¬ Cyc n A) : ∃ L : List Nat, L.Nodup ∧ (∀ a, a ∈ L ↔ a < n) ∧ L.length = n ∧ Along A L := by
  obtain ⟨L, h1, h2, h3⟩ := along_of h n (List.range n) (by simp) List.nodup_range (fun a ha => by simpa using ha)
  have hm : ∀ a, a ∈ L ↔ a < n := fun a => by rw [h2]; simp
  refine ⟨L, h1, hm, ?_, h3⟩
  have e1 : L.length ≤ n := by
    have := nodup_le (nodup_cast h1) (m := (List.range n).map fun a : Nat => (a : Int)) (fun x hx => by
      obtain ⟨a, ha, rfl⟩ := List.mem_map.1 hx
      exact List.mem_map.2 ⟨a, by simpa using (hm a).1 ha, rfl⟩)
    simpa using this
  have e2 : n ≤ L.length := by
    have := nodup_le (nodup_cast (List.nodup_range (n := n))) (m := L.map fun a : Nat => (a : Int)) (fun x hx => by
      obtain ⟨a, ha, rfl⟩ := List.mem_map.1 hx
      exact List.mem_map.2 ⟨a, (hm a).2 (by simpa using ha), rfl⟩)
    simpa using this
  omega

/-- The place of an event in a row: along each arrow it grows. -/
theorem rank_of {n : Nat} {A : List (Int × Int)} (h : ¬ Cyc n A) : ∃ rk : Nat → Nat, (∀ a, a < n → rk a < n) ∧ ∀ a b : Nat, a < n → b < n → ((a : Int), (b : Int)) ∈ A → rk a < rk b := by
  obtain ⟨L, h1, h2, h3, h4⟩ := row_of h
  have hp : ∀ a, a < n → L[L.idxOf a]? = some a := fun a ha => by
    have hm := (h2 a).2 ha
    have hlt := List.idxOf_lt_length_of_mem hm
    rw [List.getElem?_eq_getElem hlt, List.getElem_idxOf]
  refine ⟨fun a => L.idxOf a, fun a ha => ?_, fun a b ha hb hA => h4 _ _ a b (hp a ha) (hp b hb) hA⟩
  have := List.idxOf_lt_length_of_mem ((h2 a).2 ha)
  show L.idxOf a < n
  omega

end Go.Proofs.YtomijmikkbhgmaaGreat
