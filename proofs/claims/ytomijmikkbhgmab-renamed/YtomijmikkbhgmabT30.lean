import Derived.Test.YtomijmikkbhgmabT29
import Derived.Test.YtomijmikkbhgmabT20
import Derived.Test.YtomijmikkbhgmabT14
import Derived.Test.YtomijmikkbhgmabT11
import Derived.Deep.QuietTactic
import Derived.BigQuiet
import Derived.Test.YtomijmikkbhgmabLu
namespace Go.Proofs.Ytomijmikkbhgmab

/-- A section and a Sync: Begin, End, Start, Finish. -/
structure Mt where
  (b e s f : Int)

def pick (β : Bool) (m : Mt) : Int × Int := if β then (m.s, m.b) else (m.e, m.f)

/-- Can one choose, pair by pair, without a circle? -/
def Parts (n : Nat) : List Mt → List (Int × Int) → Prop
  | [], A => ¬ Cyc n A
  | m :: ms, A => ¬ Cyc n A ∧ (Parts n ms (A ++ [pick false m]) ∨ Parts n ms (A ++ [pick true m]))

def chS (β : Nat → Bool) : List Mt → List (Int × Int)
  | [] => []
  | m :: ms => pick (β 0) m :: chS (fun i => β (i + 1)) ms

theorem parts_iff (n : Nat) (ms : List Mt) (A : List (Int × Int)) : Parts n ms A ↔ ∃ β, ¬ Cyc n (A ++ chS β ms) := by
  induction ms generalizing A with
  | nil =>
    show ¬ Cyc n A ↔ _
    constructor
    · intro h; exact ⟨fun _ => false, by simpa [chS] using h⟩
    · rintro ⟨_, h⟩; simpa [chS] using h
  | cons m ms ih =>
    show ¬ Cyc n A ∧ (_ ∨ _) ↔ _
    rw [ih, ih]
    constructor
    · rintro ⟨_, ⟨β, h⟩ | ⟨β, h⟩⟩
      · refine ⟨fun i => match i with | 0 => false | i + 1 => β i, ?_⟩
        simpa [chS] using h
      · refine ⟨fun i => match i with | 0 => true | i + 1 => β i, ?_⟩
        simpa [chS] using h
    · rintro ⟨β, h⟩
      refine ⟨fun hc => h (hc.mono fun p hp => List.mem_append_left _ hp), ?_⟩
      have e : A ++ chS β (m :: ms) = (A ++ [pick (β 0) m]) ++ chS (fun i => β (i + 1)) ms := by simp [chS]
      rw [e] at h
      cases hb : β 0
      · rw [hb] at h; exact .inl ⟨_, h⟩
      · rw [hb] at h; exact .inr ⟨_, h⟩

theorem chS_congr (ms : List Mt) (β γ : Nat → Bool) (h : ∀ i, i < ms.length → β i = γ i) : chS β ms = chS γ ms := by
  induction ms generalizing β γ with
  | nil => rfl
  | cons m ms ih =>
    unfold chS
    rw [h 0 (by simp), ih (fun i => β (i + 1)) (fun i => γ (i + 1)) (fun i hi => h (i + 1) (by simp; omega))]

theorem chS_get (ms : List Mt) (β : Nat → Bool) (i : Nat) (m : Mt) (h : ms[i]? = some m) : (chS β ms)[i]? = some (pick (β i) m) := by
  induction ms generalizing β i with
  | nil => simp at h
  | cons a ms ih =>
    unfold chS
    cases i with
    | zero => simp at h; subst h; rfl
    | succ i => simpa using ih (fun i => β (i + 1)) i (by simpa using h)
theorem chS_len (ms : List Mt) (β : Nat → Bool) : (chS β ms).length = ms.length := by
  induction ms generalizing β with
  | nil => rfl
  | cons a ms ih => unfold chS; rw [List.length_cons, List.length_cons, ih]

/-- The bits of a number. -/
def bitB (c i : Nat) : Bool := c / 2 ^ i % 2 == 1

theorem bits_some (n : Nat) (β : Nat → Bool) : ∃ c, c < 2 ^ n ∧ ∀ i, i < n → bitB c i = β i := by
  induction n generalizing β with
  | zero => exact ⟨0, by simp, fun i hi => by omega⟩
  | succ n ih =>
    obtain ⟨c, hc, hb⟩ := ih (fun i => β (i + 1))
    refine ⟨2 * c + (if β 0 then 1 else 0), ?_, fun i hi => ?_⟩
    · rw [Nat.pow_succ]; split <;> omega
    · cases i with
      | zero =>
        unfold bitB
        cases β 0 <;> simp <;> omega
      | succ i =>
        have h1 := hb i (by omega)
        rw [← h1]
        unfold bitB
        have : (2 * c + (if β 0 then 1 else 0)) / 2 ^ (i + 1) = c / 2 ^ i := by
          have hp : 2 ^ (i + 1) = 2 * 2 ^ i := by rw [Nat.pow_succ, Nat.mul_comm]
          have hh : (2 * c + (if β 0 then 1 else 0)) / 2 = c := by split <;> omega
          rw [hp, ← Nat.div_div_eq_div_mul, hh]
        rw [this]

theorem parts_bits (n : Nat) (ms : List Mt) (A : List (Int × Int)) : Parts n ms A ↔ ∃ c, c < 2 ^ ms.length ∧ ¬ Cyc n (A ++ chS (bitB c) ms) := by
  rw [parts_iff]
  constructor
  · rintro ⟨β, h⟩
    obtain ⟨c, hc, hb⟩ := bits_some ms.length β
    exact ⟨c, hc, by rw [chS_congr ms (bitB c) β hb]; exact h⟩
  · rintro ⟨c, _, h⟩; exact ⟨_, h⟩

/-- Every section with every Sync. -/
def mtL (b d s : List Int) : List Mt := (b.zip d).flatMap fun p => s.map fun q => ⟨p.1, p.2, q, q + 1⟩

theorem mtL_len (b d s : List Int) (h : d.length = b.length) : (mtL b d s).length = b.length * s.length := by
  unfold mtL
  rw [flat_len _ s.length (fun _ => by simp), List.length_zip, h, Nat.min_self]

theorem mtL_get {b d s : List Int} {k j : Nat} {x y z : Int} (h1 : b[k]? = some x) (h2 : d[k]? = some y) (h3 : s[j]? = some z) : (mtL b d s)[k * s.length + j]? = some ⟨x, y, z, z + 1⟩ := by
  unfold mtL
  have hj : j < s.length := (List.getElem?_eq_some_iff.1 h3).1
  rw [flat_get _ s.length (fun _ => by simp) _ k j (x, y) (by rw [List.getElem?_zip_eq_some]; exact ⟨h1, h2⟩) hj, List.getElem?_map, h3]
  rfl

/-! as many Ends as Begins -/
theorem nst_count {l : List Ins} {j : Nat} {b : Bool} (h : nst l j b < 0) : (l.filter fun x => x.op == 5).length + (if b then 1 else 0) = (l.filter fun x => x.op == 6).length := by
  induction l generalizing j b with
  | nil =>
    cases b
    · rfl
    · simp [nst] at h; omega
  | cons x l ih =>
    rw [nst_cons7] at h
    rw [List.filter_cons, List.filter_cons]
    by_cases h5 : x.op = 5
    · simp only [h5] at h ⊢
      cases b
      · have := ih (by simpa using h)
        simp at this ⊢
        omega
      · simp at h; omega
    · by_cases h7 : x.op = 7
      · simp only [h7] at h ⊢
        cases b
        · have := ih (by simpa using h)
          simp at this ⊢
          omega
        · simp at h; omega
      · by_cases h6 : x.op = 6
        · simp only [h6] at h ⊢
          cases b
          · simp at h; omega
          · have := ih (by simpa using h)
            simp at this ⊢
            omega
        · have e5 : (x.op == 5) = false := by simpa using h5
          have e6 : (x.op == 6) = false := by simpa using h6
          have e7 : (x.op == 7) = false := by simpa using h7
          rw [e5, e6, e7] at h
          have := ih (by simpa using h)
          rw [e5, e6]
          simpa using this

theorem nstF_count {T : List (List Ins)} {i : Nat} (h : nstF T i = none) : cntO 5 T = cntO 6 T := by
  induction T generalizing i with
  | nil => rfl
  | cons l T ih =>
    unfold nstF at h
    split at h
    · cases h
    · rename_i hn
      have h1 := nst_count (l := l) (j := 0) (b := false) (by omega)
      have h2 := ih h
      rw [cntO, cntO, h2]
      simp at h1
      omega

theorem chk_nested {T : List (List Ins)} {c : List Atm} (h : ((chk T c).1 == 0) = true) : nstF T 0 = none ∧ manyB T = false := by
  unfold chk at h
  cases hs : sizeB T c
  · rw [hs] at h; simp at h
  · rw [hs] at h
    simp only [if_true] at h
    cases hi : insF T 0 with
    | some p => rw [hi] at h; simp at h
    | none =>
      rw [hi] at h
      cases hn : nstF T 0 with
      | some p => rw [hn] at h; simp at h
      | none =>
        rw [hn] at h
        cases ha : atmF c 0 T.length with
        | some p => rw [ha] at h; simp at h
        | none =>
          rw [ha] at h
          cases hm : manyB T
          · exact ⟨rfl, rfl⟩
          · rw [hm] at h; simp at h

theorem kinds_leave (o : Int) : ((kindsOf o).filter fun q => q == 3).length = if o == 6 then 1 else 0 := by
  unfold kindsOf
  repeat' split
  all_goals simp_all
theorem kinds_done (o : Int) : ((kindsOf o).filter fun q => q == 5).length = if o == 7 then 1 else 0 := by
  unfold kindsOf
  repeat' split
  all_goals simp_all

/-! a Finish right behind its Start -/
theorem thoL_append (kd : Int) (A B : List Evt) (i : Nat) : thoL kd (A ++ B) i = thoL kd A i ++ thoL kd B (i + A.length) := by
  induction A generalizing i with
  | nil => simp [thoL]
  | cons x A ih =>
    rw [List.cons_append]
    cases h : x.kind == kd
    · rw [thoL_mis h, thoL_mis h, ih, List.length_cons, show i + 1 + A.length = i + (A.length + 1) by omega]
    · rw [thoL_hit h, thoL_hit h, ih, List.length_cons, List.cons_append, show i + 1 + A.length = i + (A.length + 1) by omega]

theorem done_K (p j : Nat) (x : Ins) (i : Nat) : thoL 5 (evsK p j x (kindsOf x.op)) i = (thoL 4 (evsK p j x (kindsOf x.op)) i).map (· + 1) := by
  unfold kindsOf
  repeat' split
  all_goals first
    | rfl
    | (simp [evsK, thoL]; done)
    | (simp [evsK, thoL]; omega)

theorem done_I (p : Nat) (l : List Ins) (j i : Nat) : thoL 5 (evsI p l j) i = (thoL 4 (evsI p l j) i).map (· + 1) := by
  induction l generalizing j i with
  | nil => rfl
  | cons x l ih => rw [evsI, thoL_append, thoL_append, List.map_append, done_K, ih]

theorem done_T (T : List (List Ins)) (p i : Nat) : thoL 5 (evsT T p) i = (thoL 4 (evsT T p) i).map (· + 1) := by
  induction T generalizing p i with
  | nil => rfl
  | cons l T ih => rw [evsT, thoL_append, thoL_append, List.map_append, done_I, ih]

/-- The sections and the Syncs of a test that may be. -/
structure Mts (E : List Evt) : Prop where
  be : (thoL 3 E 0).length = (thoL 2 E 0).length
  sf : thoL 5 E 0 = (thoL 4 E 0).map (· + 1)
  b3 : (thoL 2 E 0).length ≤ 3
  s2 : (thoL 4 E 0).length ≤ 2

theorem mts_of {T : List (List Ins)} {c : List Atm} (h : ((chk T c).1 == 0) = true) : Mts (evsT T 0) := by
  obtain ⟨h1, h2⟩ := chk_nested h
  unfold manyB at h2
  simp only [Bool.or_eq_false_iff, decide_eq_false_iff_not] at h2
  refine ⟨?_, done_T T 0 0, ?_, ?_⟩
  · rw [thoL_len, thoL_len, cntK_evsT 5 2 kinds_enter, cntK_evsT 6 3 kinds_leave, nstF_count h1]
  · rw [thoL_len, cntK_evsT 5 2 kinds_enter]; omega
  · rw [thoL_len, cntK_evsT 7 4 kinds_sync]; omega

/-- Entries are numbers of events. -/
theorem thoL_mem {kd : Int} {E : List Evt} {i : Nat} {a : Int} (h : a ∈ thoL kd E i) : ∃ (k : Nat) (y : Evt), E[k]? = some y ∧ y.kind = kd ∧ a = ((i + k : Nat) : Int) := by
  induction E generalizing i with
  | nil => simp [thoL] at h
  | cons x E ih =>
    have key : a ∈ thoL kd E (i + 1) → ∃ (k : Nat) (y : Evt), (x :: E)[k]? = some y ∧ y.kind = kd ∧ a = ((i + k : Nat) : Int) := fun h => by
      obtain ⟨k, y, h1, h2, h3⟩ := ih h
      exact ⟨k + 1, y, by simpa using h1, h2, by rw [h3]; omega⟩
    cases hk : x.kind == kd
    · rw [thoL_mis hk] at h; exact key h
    · rw [thoL_hit hk] at h
      rcases List.mem_cons.1 h with rfl | h
      · exact ⟨0, x, rfl, by simpa using hk, by simp⟩
      · exact key h

theorem chS_arws {E : List Evt} (h : Mts E) (β : Nat → Bool) : Arws E.length (chS β (mtL (thoL 2 E 0) (thoL 3 E 0) (thoL 4 E 0))) := by
  have hin : ∀ m ∈ mtL (thoL 2 E 0) (thoL 3 E 0) (thoL 4 E 0), m.b ∈ thoL 2 E 0 ∧ m.e ∈ thoL 3 E 0 ∧ m.s ∈ thoL 4 E 0 ∧ m.f ∈ thoL 5 E 0 := by
    intro m hm
    unfold mtL at hm
    obtain ⟨p, hp, hm⟩ := List.mem_flatMap.1 hm
    obtain ⟨q, hq, rfl⟩ := List.mem_map.1 hm
    obtain ⟨h1, h2⟩ := List.of_mem_zip hp
    exact ⟨h1, h2, hq, by rw [h.sf]; exact List.mem_map.2 ⟨q, hq, rfl⟩⟩
  have hev : ∀ {kd a : Int}, a ∈ thoL kd E 0 → ∃ k : Nat, k < E.length ∧ a = (k : Int) := fun ha => by
    obtain ⟨k, y, h1, _, h3⟩ := thoL_mem ha
    exact ⟨k, (List.getElem?_eq_some_iff.1 h1).1, by rw [h3]; simp⟩
  intro p hp
  obtain ⟨i, hi⟩ := List.mem_iff_getElem?.1 hp
  have hl : i < (mtL (thoL 2 E 0) (thoL 3 E 0) (thoL 4 E 0)).length := by
    have := (List.getElem?_eq_some_iff.1 hi).1
    rw [chS_len] at this; exact this
  have hm := chS_get _ β i _ (List.getElem?_eq_getElem hl)
  rw [hi] at hm
  have hp' := Option.some.inj hm
  obtain ⟨h1, h2, h3, h4⟩ := hin _ (List.getElem_mem hl)
  generalize (mtL (thoL 2 E 0) (thoL 3 E 0) (thoL 4 E 0))[i] = m at *
  obtain ⟨k1, l1, e1⟩ := hev h1
  obtain ⟨k2, l2, e2⟩ := hev h2
  obtain ⟨k3, l3, e3⟩ := hev h3
  obtain ⟨k4, l4, e4⟩ := hev h4
  rw [hp']
  unfold pick
  split
  · exact ⟨k3, k1, l3, l1, by rw [e3, e1]⟩
  · exact ⟨k2, k4, l2, l4, by rw [e2, e4]⟩

/-- Parting hangs on the arrows between events alone. -/
theorem Parts.congr {n : Nat} {ms : List Mt} {A B : List (Int × Int)} (h : ∀ a b : Nat, a < n → b < n → (((a : Int), (b : Int)) ∈ A ↔ ((a : Int), (b : Int)) ∈ B)) : Parts n ms A ↔ Parts n ms B := by
  induction ms generalizing A B with
  | nil => exact not_congr (Cyc.iff h)
  | cons m ms ih =>
    have step : ∀ p : Int × Int, ∀ a b : Nat, a < n → b < n → (((a : Int), (b : Int)) ∈ A ++ [p] ↔ ((a : Int), (b : Int)) ∈ B ++ [p]) := fun p a b ha hb => by
      rw [List.mem_append, List.mem_append, h a b ha hb]
    exact and_congr (not_congr (Cyc.iff h)) (or_congr (ih (step _)) (ih (step _)))

theorem JudIs.congr' {P P' : Prop} {t t' : Bool} {Q Q' S S' : Prop} {r : Int} (h : JudIs P t Q S r) (hP : P ↔ P') (ht : t = t') (hQ : Q ↔ Q') (hS : S ↔ S') : JudIs P' t' Q' S' r := by
  have e1 : P = P' := propext hP
  have e2 : Q = Q' := propext hQ
  have e3 : S = S' := propext hS
  subst e1 e2 e3 ht
  exact h

theorem judge_same' {T : List (List Ins)} {E : List Evt} (hE : E = evsT T 0) (hl : E.length ≤ 96) (hloc : ∀ y ∈ E, locB y.loc = true) {x : Exe} (hx : IsEx E x) {ms : List Mt} :
    (Cyc E.length (cohB E x) ↔ Cyc E.length (cohA E x)) ∧ tornQ (torQ E (rankG E.length (srcL E x.from') x.order)) E.length = tornB E x ∧ (Cyc E.length (kepQ T E x) ↔ Cyc E.length (kepA T E x)) ∧ (¬ Parts E.length ms (kepQ T E x) ↔ ¬ Parts E.length ms (kepA T E x)) := by
  obtain ⟨h1, h2, h3⟩ := judge_same hE hl hloc hx
  have hr := hx.ranks hl hloc
  refine ⟨h1, h2, h3, not_congr (Parts.congr fun a b ha hb => ?_)⟩
  unfold kepQ kepA exQ
  rw [List.mem_append, List.mem_append, exec_iff hloc hr ha hb, allU_mem, allD_mem]
  constructor
  · rintro (h | ⟨h1, h2, h3⟩)
    · exact .inl h
    · exact .inr ⟨h1, h2, by rw [kept_same hE h2]; exact h3⟩
  · rintro (h | ⟨h1, h2, h3⟩)
    · exact .inl h
    · exact .inr ⟨h1, h2, by rw [← kept_same hE h2]; exact h3⟩

end Go.Proofs.Ytomijmikkbhgmab

namespace Go.Proofs.Ytomijmikkbhgmab

/-- A row of numbers along which the arrows between them lead. -/
def Along (A : List (Int × Int)) (L : List Nat) : Prop := ∀ (i j a b : Nat), L[i]? = some a → L[j]? = some b → ((a : Int), (b : Int)) ∈ A → i < j

theorem along_of {n : Nat} {A : List (Int × Int)} (h : ¬ Cyc n A) (m : Nat) (S : List Nat) (hm : S.length = m) (hnd : S.Nodup) (hS : ∀ a ∈ S, a < n) : ∃ L : List Nat, L.Nodup ∧ (∀ a, a ∈ L ↔ a ∈ S) ∧ Along A L := by
  induction m generalizing S with
  | zero =>
    have : S = [] := List.eq_nil_of_length_eq_zero hm
    subst this
    exact ⟨[], List.nodup_nil, fun a => Iff.rfl, fun i j a b h => by simp at h⟩
  | succ m ih =>
    have hex : ∃ b ∈ S, ∀ a ∈ S, ((a : Int), (b : Int)) ∉ A := by
      refine Classical.byContradiction fun hno => h ⟨fun a => a ∈ S, ?_, fun b hb hbS => ?_⟩
      · obtain ⟨b, hb⟩ := List.exists_mem_of_length_pos (l := S) (by omega)
        exact ⟨b, hS b hb, hb⟩
      · refine Classical.byContradiction fun h2 => hno ⟨b, hbS, fun a ha hA => h2 ⟨a, hS a ha, ha, hA⟩⟩
    obtain ⟨b, hb, hfree⟩ := hex
    obtain ⟨L, h1, h2, h3⟩ := ih (S.erase b) (by rw [List.length_erase_of_mem hb]; omega) (hnd.erase b) (fun a ha => hS a (List.mem_of_mem_erase ha))
    have hbL : b ∉ L := fun hbL => (List.Nodup.not_mem_erase hnd) ((h2 b).1 hbL)
    refine ⟨b :: L, List.nodup_cons.2 ⟨hbL, h1⟩, fun a => ?_, fun i j a c hi hj hA => ?_⟩
    · rw [List.mem_cons, h2]
      constructor
      · rintro (rfl | h)
        · exact hb
        · exact List.mem_of_mem_erase h
      · intro ha
        by_cases e : a = b
        · exact .inl e
        · exact .inr ((List.mem_erase_of_ne e).2 ha)
    · have hmem : ∀ {k : Nat} {x : Nat}, (b :: L)[k]? = some x → x ∈ S := fun {k x} hk => by
        rcases List.mem_cons.1 (List.mem_of_getElem? hk) with rfl | hx
        · exact hb
        · exact List.mem_of_mem_erase ((h2 _).1 hx)
      cases j with
      | zero =>
        have hcb : b = c := by simpa using hj
        subst hcb
        exact absurd hA (hfree a (hmem hi))
      | succ j =>
        cases i with
        | zero => omega
        | succ i =>
          have := h3 i j a c (by simpa using hi) (by simpa using hj) hA
          omega

/-- All events, in one row. -/
theorem row_of {n : Nat} {A : List (Int × Int)} (h : ¬ Cyc n A) : ∃ L : List Nat, L.Nodup ∧ (∀ a, a ∈ L ↔ a < n) ∧ L.length = n ∧ Along A L := by
  obtain ⟨L, h1, h2, h3⟩ := along_of h n (List.range n) (by simp) List.nodup_range (fun a ha => by simpa using ha)
  have hm : ∀ a, a ∈ L ↔ a < n := fun a => by rw [h2]; simp
  refine ⟨L, h1, hm, ?_, h3⟩
  have e1 : L.length ≤ n := by
    have := nodup_le (nodup_cast h1) (m := (List.range n).map fun a : Nat => (a : Int)) (fun x hx => by
      obtain ⟨a, ha, rfl⟩ := List.mem_map.1 hx
      exact List.mem_map.2 ⟨a, by simpa using (hm a).1 ha, rfl⟩)
    simpa using this
  have e2 : n ≤ L.length := by
    have := nodup_le (nodup_cast (List.nodup_range (n := n))) (m := L.map fun a : Nat => (a : Int)) (fun x hx => by
      obtain ⟨a, ha, rfl⟩ := List.mem_map.1 hx
      exact List.mem_map.2 ⟨a, (hm a).2 (by simpa using ha), rfl⟩)
    simpa using this
  omega

/-- The place of an event in a row: along each arrow it grows. -/
theorem rank_of {n : Nat} {A : List (Int × Int)} (h : ¬ Cyc n A) : ∃ rk : Nat → Nat, (∀ a, a < n → rk a < n) ∧ ∀ a b : Nat, a < n → b < n → ((a : Int), (b : Int)) ∈ A → rk a < rk b := by
  obtain ⟨L, h1, h2, h3, h4⟩ := row_of h
  have hp : ∀ a, a < n → L[L.idxOf a]? = some a := fun a ha => by
    have hm := (h2 a).2 ha
    have hlt := List.idxOf_lt_length_of_mem hm
    rw [List.getElem?_eq_getElem hlt, List.getElem_idxOf]
  refine ⟨fun a => L.idxOf a, fun a ha => ?_, fun a b ha hb hA => h4 _ _ a b (hp a ha) (hp b hb) hA⟩
  have := List.idxOf_lt_length_of_mem ((h2 a).2 ha)
  show L.idxOf a < n
  omega

end Go.Proofs.Ytomijmikkbhgmab

namespace Go.Proofs.Ytomijmikkbhgmab

theorem valN_out {E : List Evt} {S : Nat → Int} {d j : Nat} (h : E.length ≤ j) : valN E S d (j : Int) = 0 := by
  cases d with
  | zero => rfl
  | succ d => rw [valN, if_neg (by omega), Int.toNat_natCast, List.getElem?_eq_none h]

/-- Where each step goes down, more steps than that tell nothing new. -/
theorem valN_stable {E : List Evt} {S : Nat → Int} (rk : Nat → Nat) (h1 : ∀ (i : Nat) (y : Evt), E[i]? = some y → (y.kind == 0) = true → ∀ j : Nat, S i = (j : Int) → j < E.length → rk j < rk i)
    (h2 : ∀ (i : Nat) (y : Evt), E[i]? = some y → (y.kind == 0) = false → (y.ins.op == 1) = true → ∀ j : Nat, srcG y (E.take i) 0 (-1) = (j : Int) → j < E.length → rk j < rk i) (m : Nat) :
    ∀ (i : Nat), rk i ≤ m → ∀ d d', rk i < d → rk i < d' → valN E S d (i : Int) = valN E S d' (i : Int) := by
  induction m with
  | zero =>
    intro i hi d d' hd hd'
    obtain ⟨d, rfl⟩ : ∃ k, d = k + 1 := ⟨d - 1, by omega⟩
    obtain ⟨d', rfl⟩ : ∃ k, d' = k + 1 := ⟨d' - 1, by omega⟩
    cases hy : E[i]? with
    | none =>
      have : E.length ≤ i := by simpa using hy
      rw [valN_out this, valN_out this]
    | some y =>
      have stop : ∀ s : Int, (∀ j : Nat, s = (j : Int) → j < E.length → rk j < rk i) → valN E S d s = valN E S d' s := by
        intro s hs
        by_cases hn : s < 0
        · rw [valN_neg _ _ _ hn, valN_neg _ _ _ hn]
        · obtain ⟨j, rfl⟩ := Int.eq_ofNat_of_zero_le (by omega : 0 ≤ s)
          by_cases hj : j < E.length
          · have := hs j rfl hj
            omega
          · rw [valN_out (by omega), valN_out (by omega)]
      cases hk : y.kind == 0
      · cases ho : y.ins.op == 1
        · rw [valN_else hy hk ho, valN_else hy hk ho]
        · rw [valN_copy hy hk ho, valN_copy hy hk ho]
          exact stop _ (h2 i y hy hk ho)
      · rw [valN_read hy hk, valN_read hy hk]
        exact stop _ (h1 i y hy hk)
  | succ m ih =>
    intro i hi d d' hd hd'
    obtain ⟨d, rfl⟩ : ∃ k, d = k + 1 := ⟨d - 1, by omega⟩
    obtain ⟨d', rfl⟩ : ∃ k, d' = k + 1 := ⟨d' - 1, by omega⟩
    cases hy : E[i]? with
    | none =>
      have : E.length ≤ i := by simpa using hy
      rw [valN_out this, valN_out this]
    | some y =>
      have step : ∀ s : Int, (∀ j : Nat, s = (j : Int) → j < E.length → rk j < rk i) → valN E S d s = valN E S d' s := by
        intro s hs
        by_cases hn : s < 0
        · rw [valN_neg _ _ _ hn, valN_neg _ _ _ hn]
        · obtain ⟨j, rfl⟩ := Int.eq_ofNat_of_zero_le (by omega : 0 ≤ s)
          by_cases hj : j < E.length
          · have := hs j rfl hj
            exact ih j (by omega) d d' (by omega) (by omega)
          · rw [valN_out (by omega), valN_out (by omega)]
      cases hk : y.kind == 0
      · cases ho : y.ins.op == 1
        · rw [valN_else hy hk ho, valN_else hy hk ho]
        · rw [valN_copy hy hk ho, valN_copy hy hk ho]
          exact step _ (h2 i y hy hk ho)
      · rw [valN_read hy hk, valN_read hy hk]
        exact step _ (h1 i y hy hk)

theorem valN_congr {E : List Evt} {S S' : Nat → Int} (h : ∀ (i : Nat) (y : Evt), E[i]? = some y → (y.kind == 0) = true → S i = S' i) (d : Nat) (i : Int) : valN E S d i = valN E S' d i := by
  induction d generalizing i with
  | zero => rfl
  | succ d ih =>
    by_cases hn : i < 0
    · rw [valN_neg _ _ _ hn, valN_neg _ _ _ hn]
    · obtain ⟨j, rfl⟩ := Int.eq_ofNat_of_zero_le (by omega : 0 ≤ i)
      cases hy : E[j]? with
      | none =>
        have : E.length ≤ j := by simpa using hy
        rw [valN_out this, valN_out this]
      | some y =>
        cases hk : y.kind == 0
        · cases ho : y.ins.op == 1
          · rw [valN_else hy hk ho, valN_else hy hk ho]
          · rw [valN_copy hy hk ho, valN_copy hy hk ho, ih]
        · rw [valN_read hy hk, valN_read hy hk, h j y hy hk, ih]

theorem srcG_spec (y : Evt) (l : List Evt) (i : Nat) (a : Int) (k : Nat) (h : srcG y l i a = (k : Int)) : a = (k : Int) ∨ (i ≤ k ∧ ∃ z, l[k - i]? = some z ∧ z.kind = 0 ∧ z.thread = y.thread ∧ z.ins.reg = y.ins.reg) := by
  induction l generalizing i a with
  | nil => exact .inl h
  | cons z l ih =>
    rw [srcG] at h
    rcases ih (i + 1) _ h with h1 | ⟨h1, z', h2, h3⟩
    · cases hz : z.kind == 0 && z.thread == y.thread && z.ins.reg == y.ins.reg
      · rw [hz] at h1; exact .inl (by simpa using h1)
      · rw [hz] at h1
        have h1' : (i : Int) = (k : Int) := by simpa using h1
        have hik : i = k := by omega
        subst hik
        simp only [Bool.and_eq_true, beq_iff_eq] at hz
        exact .inr ⟨Nat.le_refl _, z, by simp, hz.1.1, hz.1.2, hz.2⟩
    · refine .inr ⟨by omega, z', ?_, h3⟩
      rw [show k - i = (k - (i + 1)) + 1 by omega]
      simpa using h2

/-- From which event each one reads: the program's way. -/
def srcS (E : List Evt) (x : Exe) : Nat → Int := fun j => (srcL E x.from').getD j 0
/-- The document's way. -/
def frS (E : List Evt) (x : Exe) : Nat → Int := fun r => frG ((rdsX E 0).zip x.from') (r : Int)

theorem src_same {E : List Evt} (hl : E.length ≤ 96) (hloc : ∀ y ∈ E, locB y.loc = true) {x : Exe} (hx : IsEx E x) (i : Nat) (y : Evt) (hy : E[i]? = some y) (hk : (y.kind == 0) = true) : srcS E x i = frS E x i := by
  have hr := hx.ranks hl hloc
  have hk' : y.kind = 0 := by simpa using hk
  have hm : ((i, y), srcS E x i) ∈ (rdsX E 0).zip x.from' := (hr.zip i y _).2 ⟨hy, hk', rfl⟩
  unfold frS
  rcases frG_mem ((rdsX E 0).zip x.from') (i : Int) with h | ⟨⟨⟨r, z⟩, f⟩, h1, h2, h3⟩
  · have : ∀ (l : List ((Nat × Evt) × Int)), ((i, y), srcS E x i) ∈ l → ∃ q ∈ l, frG l (i : Int) = q.2 ∧ (q.1.1 : Int) = (i : Int) := by
      intro l
      induction l with
      | nil => intro h; cases h
      | cons q l ih =>
        intro hq
        cases hqi : ((q.1.1 : Int) == (i : Int))
        · rw [frG_mis hqi]
          rcases List.mem_cons.1 hq with e | e
          · rw [← e] at hqi; simp at hqi
          · obtain ⟨q', h1, h2⟩ := ih e
            exact ⟨q', List.mem_cons_of_mem _ h1, h2⟩
        · exact ⟨q, List.mem_cons_self .., frG_hit hqi _, by simpa using hqi⟩
    obtain ⟨⟨⟨r, z⟩, f⟩, h1, h2, h3⟩ := this _ hm
    have hri : r = i := by have h3' : (r : Int) = (i : Int) := h3
                           omega
    subst hri
    have := (hr.zip r z f).1 h1
    rw [h2]
    exact this.2.2
  · have hri : r = i := by have h3' : (r : Int) = (i : Int) := h3
                           omega
    subst hri
    have := (hr.zip r z f).1 h1
    rw [h2]
    exact this.2.2

/-- What is held in the end, each value by so many steps. -/
def staD (D k : Nat) (E : List Evt) (S : Nat → Int) (x : Exe) : List Int := ((List.range k).flatMap fun i : Nat => (List.range 3).map fun r : Nat => valN E S D (srcG (evtOf (i : Int) (r : Int)) E 0 (-1))) ++ (List.range 3).map fun j => match (x.order.getD j []).getLast? with
  | none => 0
  | some w => valN E S D w

theorem staL_D (k : Nat) (E : List Evt) (S : Nat → Int) (x : Exe) : staL k E S x = staD (2 * E.length) k E S x := rfl

theorem val_same {T : List (List Ins)} {E : List Evt} (hE : E = evsT T 0) (hl : E.length ≤ 96) (hloc : ∀ y ∈ E, locB y.loc = true) {x : Exe} (hx : IsEx E x) (hc : ¬ Cyc E.length (kepA T E x)) (i : Int) :
    valN E (srcS E x) E.length i = valN E (frS E x) (2 * E.length) i := by
  rw [valN_congr (fun i y hy hk => (src_same hl hloc hx i y hy hk).symm) (2 * E.length) i]
  obtain ⟨_, _, j3, _⟩ := judge_same' (ms := []) hE hl hloc hx
  obtain ⟨rk, hr1, hr2⟩ := rank_of (fun h => hc (j3.1 h))
  by_cases hn : i < 0
  · rw [valN_neg _ _ _ hn, valN_neg _ _ _ hn]
  · obtain ⟨j, rfl⟩ := Int.eq_ofNat_of_zero_le (by omega : 0 ≤ i)
    by_cases hj : j < E.length
    · refine valN_stable rk (fun i y hy _ a ha hal => ?_) (fun i y hy hk ho a ha hal => ?_) _ j (Nat.le_refl _) _ _ (hr1 j hj) (by have := hr1 j hj; omega)
      · have hi : i < E.length := (List.getElem?_eq_some_iff.1 hy).1
        refine hr2 a i hal hi ?_
        unfold kepQ exQ
        exact List.mem_append_left _ (allS_mem.2 ⟨hi, .inl ha⟩)
      · have hi : i < E.length := (List.getElem?_eq_some_iff.1 hy).1
        refine hr2 a i hal hi ?_
        unfold kepQ
        rcases srcG_spec y _ 0 (-1) a ha with h | ⟨_, z, h2, h3, h4, h5⟩
        · omega
        · rw [Nat.sub_zero] at h2
          have hai : a < i := by
            have := (List.getElem?_eq_some_iff.1 h2).1
            rw [List.length_take] at this; omega
          rw [List.getElem?_take_of_lt hai] at h2
          refine List.mem_append_right _ (allU_mem.2 ⟨hi, hai, ?_⟩)
          rw [pairB_get h2 hy]
          unfold keepQ cpyB
          rw [h4, ho, ha]
          simp
    · rw [valN_out (by omega), valN_out (by omega)]

theorem sta_same {T : List (List Ins)} {E : List Evt} (hE : E = evsT T 0) (hl : E.length ≤ 96) (hloc : ∀ y ∈ E, locB y.loc = true) {x : Exe} (hx : IsEx E x) (hc : ¬ Cyc E.length (kepA T E x)) (k : Nat) :
    staD E.length k E (srcS E x) x = staL k E (frS E x) x := by
  rw [staL_D]
  unfold staD
  have h := val_same hE hl hloc hx hc
  congr 1
  · congr 1
    funext i
    congr 1
    funext r
    exact h _
  · congr 1
    funext j
    split
    · rfl
    · exact h _

/-- Values are small. -/
theorem valN_small {E : List Evt} (hv : ∀ y ∈ E, 0 ≤ y.ins.val ∧ y.ins.val ≤ 1000) (S : Nat → Int) (d : Nat) (i : Int) : 0 ≤ valN E S d i ∧ valN E S d i ≤ 1000 := by
  induction d generalizing i with
  | zero => exact ⟨Int.le_refl _, by show (0 : Int) ≤ 1000; omega⟩
  | succ d ih =>
    by_cases hn : i < 0
    · rw [valN_neg _ _ _ hn]; omega
    · obtain ⟨j, rfl⟩ := Int.eq_ofNat_of_zero_le (by omega : 0 ≤ i)
      cases hy : E[j]? with
      | none =>
        have : E.length ≤ j := by simpa using hy
        rw [valN_out this]; omega
      | some y =>
        cases hk : y.kind == 0
        · cases ho : y.ins.op == 1
          · rw [valN_else hy hk ho]; exact hv y (List.mem_of_getElem? hy)
          · rw [valN_copy hy hk ho]; exact ih _
        · rw [valN_read hy hk]; exact ih _

theorem staL_len (k : Nat) (E : List Evt) (S : Nat → Int) (x : Exe) : (staL k E S x).length = 3 * k + 3 := by
  unfold staL
  rw [List.length_append, List.length_map, List.length_range]
  have : ((List.range k).flatMap fun i => (List.range 3).map (regV E S i)).length = 3 * k := by
    induction k with
    | zero => rfl
    | succ k ih => rw [List.range_succ (n := k), List.flatMap_append, List.length_append, ih]; simp; omega
  omega

theorem staL_small {E : List Evt} (hv : ∀ y ∈ E, 0 ≤ y.ins.val ∧ y.ins.val ≤ 1000) (k : Nat) (S : Nat → Int) (x : Exe) : ∀ a ∈ staL k E S x, 0 ≤ a ∧ a ≤ 1000 := by
  intro a ha
  unfold staL at ha
  rcases List.mem_append.1 ha with ha | ha
  · obtain ⟨i, _, hi⟩ := List.mem_flatMap.1 ha
    obtain ⟨r, _, rfl⟩ := List.mem_map.1 hi
    exact valN_small hv S _ _
  · obtain ⟨j, _, rfl⟩ := List.mem_map.1 ha
    unfold locV
    split
    · omega
    · exact valN_small hv S _ _

end Go.Proofs.Ytomijmikkbhgmab

namespace Go.Proofs.Ytomijmikkbhgmab
open Go.RowKit

end Go.Proofs.Ytomijmikkbhgmab

namespace Go.Proofs.Ytomijmikkbhgmab
open Go.RowKit

/-- The events, where Check says OK. -/
def evsR (T : List (List Ins)) (c : List Atm) : List Evt := if (chk T c).1 == 0 then evsT T 0 else []
/-- How many candidates, where Check says OK. -/
def sizR (T : List (List Ins)) (c : List Atm) : Nat := if (chk T c).1 == 0 then cap2 (sizeN (evsT T 0)) else 0

theorem chk_zero {T : List (List Ins)} {c : List Atm} (h : ((chk T c).1 == 0) = true) : sizeB T c = true := by
  cases hs : sizeB T c
  · rw [chk_size hs] at h; simp at h
  · rfl

theorem ev4_nil (w : World) : Ev4At w (.slice none 0 0) [] := ⟨none, 0, 0, 0, rfl, fun h => absurd rfl h, fun _ => ⟨rfl, rfl⟩, fun k x h => by simp at h⟩

end Go.Proofs.Ytomijmikkbhgmab
