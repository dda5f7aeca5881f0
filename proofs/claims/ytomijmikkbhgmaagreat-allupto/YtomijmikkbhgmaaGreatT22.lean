import Derived.Test.YtomijmikkbhgmaaGreatT21
import Derived.Deep.RegionLaw
import Derived.Laws.BitsLemmas
import Derived.Laws.CopyOwn
namespace Go.Proofs.YtomijmikkbhgmaaGreat

/-- A section and a Sync: Begin, End, Start, Finish. -/
structure Mt where
  (b e s f : Int)

def pick (β : Bool) (m : Mt) : Int × Int := if β then (m.s, m.b) else (m.e, m.f)

/-- Can one choose, pair by pair, without a circle? -/
def Parts (n : Nat) : List Mt → List (Int × Int) → Prop
  | [], A => ¬ Cyc n A
  | m :: ms, A => ¬ Cyc n A ∧ (Parts n ms (A ++ [pick false m]) ∨ Parts n ms (A ++ [pick true m]))

def chS (β : Nat → Bool) : List Mt → List (Int × Int)
  | [] => []
  | m :: ms => pick (β 0) m :: chS (fun i => β (i + 1)) ms

theorem parts_iff (n : Nat) (ms : List Mt) (A : List (Int × Int)) : Parts n ms A ↔ ∃ β, ¬ Cyc n (A ++ chS β ms) := by
  induction ms generalizing A with
  | nil =>
    show ¬ Cyc n A ↔ _
    constructor
    · intro h; exact ⟨fun _ => false, by simpa [chS] using h⟩
    · rintro ⟨_, h⟩; simpa [chS] using h
  | cons m ms ih =>
    show ¬ Cyc n A ∧ (_ ∨ _) ↔ _
    rw [ih, ih]
    constructor
    · rintro ⟨_, ⟨β, h⟩ | ⟨β, h⟩⟩
      · refine ⟨fun i => match i with | 0 => false | i + 1 => β i, ?_⟩
        simpa [chS] using h
      · refine ⟨fun i => match i with | 0 => true | i + 1 => β i, ?_⟩
        simpa [chS] using h
    · rintro ⟨β, h⟩
      refine ⟨fun hc => h (hc.mono fun p hp => List.mem_append_left _ hp), ?_⟩
      have e : A ++ chS β (m :: ms) = (A ++ [pick (β 0) m]) ++ chS (fun i => β (i + 1)) ms := by simp [chS]
      rw [e] at h
      cases hb : β 0
      · rw [hb] at h; exact .inl ⟨_, h⟩
      · rw [hb] at h; exact .inr ⟨_, h⟩

theorem chS_congr (ms : List Mt) (β γ : Nat → Bool) (h : ∀ i, i < ms.length → β i = γ i) : chS β ms = chS γ ms := by
  induction ms generalizing β γ with
  | nil => rfl
  | cons m ms ih =>
    unfold chS
    rw [h 0 (by simp), ih (fun i => β (i + 1)) (fun i => γ (i + 1)) (fun i hi => h (i + 1) (by simp; omega))]

theorem chS_get (ms : List Mt) (β : Nat → Bool) (i : Nat) (m : Mt) (h : ms[i]? = some m) : (chS β ms)[i]? = some (pick (β i) m) := by
  induction ms generalizing β i with
  | nil => simp at h
  | cons a ms ih =>
    unfold chS
    cases i with
    | zero => simp at h; subst h; rfl
    | succ i => simpa using ih (fun i => β (i + 1)) i (by simpa using h)
theorem chS_len (ms : List Mt) (β : Nat → Bool) : (chS β ms).length = ms.length := by
  induction ms generalizing β with
  | nil => rfl
  | cons a ms ih => unfold chS; rw [List.length_cons, List.length_cons, ih]

/-- The bits of a number. -/
def bitB (c i : Nat) : Bool := c / 2 ^ i % 2 == 1

theorem bits_some (n : Nat) (β : Nat → Bool) : ∃ c, c < 2 ^ n ∧ ∀ i, i < n → bitB c i = β i := by
  induction n generalizing β with
  | zero => exact ⟨0, by simp, fun i hi => by omega⟩
  | succ n ih =>
    obtain ⟨c, hc, hb⟩ := ih (fun i => β (i + 1))
    refine ⟨2 * c + (if β 0 then 1 else 0), ?_, fun i hi => ?_⟩
    · rw [Nat.pow_succ]; split <;> omega
    · cases i with
      | zero =>
        unfold bitB
        cases β 0 <;> simp <;> omega
      | succ i =>
        have h1 := hb i (by omega)
        rw [← h1]
        unfold bitB
        have : (2 * c + (if β 0 then 1 else 0)) / 2 ^ (i + 1) = c / 2 ^ i := by
          have hp : 2 ^ (i + 1) = 2 * 2 ^ i := by rw [Nat.pow_succ, Nat.mul_comm]
          have hh : (2 * c + (if β 0 then 1 else 0)) / 2 = c := by split <;> omega
          rw [hp, ← Nat.div_div_eq_div_mul, hh]
        rw [this]

theorem parts_bits (n : Nat) (ms : List Mt) (A : List (Int × Int)) : Parts n ms A ↔ ∃ c, c < 2 ^ ms.length ∧ ¬ Cyc n (A ++ chS (bitB c) ms) := by
  rw [parts_iff]
  constructor
  · rintro ⟨β, h⟩
    obtain ⟨c, hc, hb⟩ := bits_some ms.length β
    exact ⟨c, hc, by rw [chS_congr ms (bitB c) β hb]; exact h⟩
  · rintro ⟨c, _, h⟩; exact ⟨_, h⟩

/-- Every section with every Sync. -/
def mtL (b d s : List Int) : List Mt := (b.zip d).flatMap fun p => s.map fun q => ⟨p.1, p.2, q, q + 1⟩

theorem mtL_len (b d s : List Int) (h : d.length = b.length) : (mtL b d s).length = b.length * s.length := by
  unfold mtL
  rw [flat_len _ s.length (fun _ => by simp), List.length_zip, h, Nat.min_self]

theorem mtL_get {b d s : List Int} {k j : Nat} {x y z : Int} (h1 : b[k]? = some x) (h2 : d[k]? = some y) (h3 : s[j]? = some z) : (mtL b d s)[k * s.length + j]? = some ⟨x, y, z, z + 1⟩ := by
  unfold mtL
  have hj : j < s.length := (List.getElem?_eq_some_iff.1 h3).1
  rw [flat_get _ s.length (fun _ => by simp) _ k j (x, y) (by rw [List.getElem?_zip_eq_some]; exact ⟨h1, h2⟩) hj, List.getElem?_map, h3]
  rfl

/-! as many Ends as Begins -/
theorem nst_count {l : List Ins} {j : Nat} {b : Bool} (h : nst l j b < 0) : (l.filter fun x => x.op == 5).length + (if b then 1 else 0) = (l.filter fun x => x.op == 6).length := by
  induction l generalizing j b with
  | nil =>
    cases b
    · rfl
    · simp [nst] at h; omega
  | cons x l ih =>
    rw [nst_cons7] at h
    rw [List.filter_cons, List.filter_cons]
    by_cases h5 : x.op = 5
    · simp only [h5] at h ⊢
      cases b
      · have := ih (by simpa using h)
        simp at this ⊢
        omega
      · simp at h; omega
    · by_cases h7 : x.op = 7
      · simp only [h7] at h ⊢
        cases b
        · have := ih (by simpa using h)
          simp at this ⊢
          omega
        · simp at h; omega
      · by_cases h6 : x.op = 6
        · simp only [h6] at h ⊢
          cases b
          · simp at h; omega
          · have := ih (by simpa using h)
            simp at this ⊢
            omega
        · have e5 : (x.op == 5) = false := by simpa using h5
          have e6 : (x.op == 6) = false := by simpa using h6
          have e7 : (x.op == 7) = false := by simpa using h7
          rw [e5, e6, e7] at h
          have := ih (by simpa using h)
          rw [e5, e6]
          simpa using this

theorem nstF_count {T : List (List Ins)} {i : Nat} (h : nstF T i = none) : cntO 5 T = cntO 6 T := by
  induction T generalizing i with
  | nil => rfl
  | cons l T ih =>
    unfold nstF at h
    split at h
    · cases h
    · rename_i hn
      have h1 := nst_count (l := l) (j := 0) (b := false) (by omega)
      have h2 := ih h
      rw [cntO, cntO, h2]
      simp at h1
      omega

theorem chk_nested {T : List (List Ins)} {c : List Atm} (h : ((chk T c).1 == 0) = true) : nstF T 0 = none ∧ manyB T = false := by
  unfold chk at h
  cases hs : sizeB T c
  · rw [hs] at h; simp at h
  · rw [hs] at h
    simp only [if_true] at h
    cases hi : insF T 0 with
    | some p => rw [hi] at h; simp at h
    | none =>
      rw [hi] at h
      cases hn : nstF T 0 with
      | some p => rw [hn] at h; simp at h
      | none =>
        rw [hn] at h
        cases ha : atmF c 0 T.length with
        | some p => rw [ha] at h; simp at h
        | none =>
          rw [ha] at h
          cases hm : manyB T
          · exact ⟨rfl, rfl⟩
          · rw [hm] at h; simp at h

theorem kinds_leave (o : Int) : ((kindsOf o).filter fun q => q == 3).length = if o == 6 then 1 else 0 := by
  unfold kindsOf
  repeat' split
  all_goals simp_all
/-! a Finish right behind its Start -/
theorem thoL_append (kd : Int) (A B : List Evt) (i : Nat) : thoL kd (A ++ B) i = thoL kd A i ++ thoL kd B (i + A.length) := by
  induction A generalizing i with
  | nil => simp [thoL]
  | cons x A ih =>
    rw [List.cons_append]
    cases h : x.kind == kd
    · rw [thoL_mis h, thoL_mis h, ih, List.length_cons, show i + 1 + A.length = i + (A.length + 1) by omega]
    · rw [thoL_hit h, thoL_hit h, ih, List.length_cons, List.cons_append, show i + 1 + A.length = i + (A.length + 1) by omega]

theorem done_K (p j : Nat) (x : Ins) (i : Nat) : thoL 5 (evsK p j x (kindsOf x.op)) i = (thoL 4 (evsK p j x (kindsOf x.op)) i).map (· + 1) := by
  unfold kindsOf
  repeat' split
  all_goals first
    | rfl
    | (simp [evsK, thoL]; done)
    | (simp [evsK, thoL]; omega)

theorem done_I (p : Nat) (l : List Ins) (j i : Nat) : thoL 5 (evsI p l j) i = (thoL 4 (evsI p l j) i).map (· + 1) := by
  induction l generalizing j i with
  | nil => rfl
  | cons x l ih => rw [evsI, thoL_append, thoL_append, List.map_append, done_K, ih]

theorem done_T (T : List (List Ins)) (p i : Nat) : thoL 5 (evsT T p) i = (thoL 4 (evsT T p) i).map (· + 1) := by
  induction T generalizing p i with
  | nil => rfl
  | cons l T ih => rw [evsT, thoL_append, thoL_append, List.map_append, done_I, ih]

/-- The sections and the Syncs of a test that may be. -/
structure Mts (E : List Evt) : Prop where
  be : (thoL 3 E 0).length = (thoL 2 E 0).length
  sf : thoL 5 E 0 = (thoL 4 E 0).map (· + 1)
  b3 : (thoL 2 E 0).length ≤ 3
  s2 : (thoL 4 E 0).length ≤ 2

theorem mts_of {T : List (List Ins)} {c : List Atm} (h : ((chk T c).1 == 0) = true) : Mts (evsT T 0) := by
  obtain ⟨h1, h2⟩ := chk_nested h
  unfold manyB at h2
  simp only [Bool.or_eq_false_iff, decide_eq_false_iff_not] at h2
  refine ⟨?_, done_T T 0 0, ?_, ?_⟩
  · rw [thoL_len, thoL_len, cntK_evsT 5 2 kinds_enter, cntK_evsT 6 3 kinds_leave, nstF_count h1]
  · rw [thoL_len, cntK_evsT 5 2 kinds_enter]; omega
  · rw [thoL_len, cntK_evsT 7 4 kinds_sync]; omega

/-- Entries are numbers of events. -/
theorem thoL_mem {kd : Int} {E : List Evt} {i : Nat} {a : Int} (h : a ∈ thoL kd E i) : ∃ (k : Nat) (y : Evt), E[k]? = some y ∧ y.kind = kd ∧ a = ((i + k : Nat) : Int) := by
  induction E generalizing i with
  | nil => simp [thoL] at h
  | cons x E ih =>
    have key : a ∈ thoL kd E (i + 1) → ∃ (k : Nat) (y : Evt), (x :: E)[k]? = some y ∧ y.kind = kd ∧ a = ((i + k : Nat) : Int) := fun h => by
      obtain ⟨k, y, h1, h2, h3⟩ := ih h
      exact ⟨k + 1, y, by simpa using h1, h2, by rw [h3]; omega⟩
    cases hk : x.kind == kd
    · rw [thoL_mis hk] at h; exact key h
    · rw [thoL_hit hk] at h
      rcases List.mem_cons.1 h with rfl | h
      · exact ⟨0, x, rfl, by simpa using hk, by simp⟩
      · exact key h

theorem chS_arws {E : List Evt} (h : Mts E) (β : Nat → Bool) : Arws E.length (chS β (mtL (thoL 2 E 0) (thoL 3 E 0) (thoL 4 E 0))) := by
  have hin : ∀ m ∈ mtL (thoL 2 E 0) (thoL 3 E 0) (thoL 4 E 0), m.b ∈ thoL 2 E 0 ∧ m.e ∈ thoL 3 E 0 ∧ m.s ∈ thoL 4 E 0 ∧ m.f ∈ thoL 5 E 0 := by
    intro m hm
    unfold mtL at hm
    obtain ⟨p, hp, hm⟩ := List.mem_flatMap.1 hm
    obtain ⟨q, hq, rfl⟩ := List.mem_map.1 hm
    obtain ⟨h1, h2⟩ := List.of_mem_zip hp
    exact ⟨h1, h2, hq, by rw [h.sf]; exact List.mem_map.2 ⟨q, hq, rfl⟩⟩
  have hev : ∀ {kd a : Int}, a ∈ thoL kd E 0 → ∃ k : Nat, k < E.length ∧ a = (k : Int) := fun ha => by
    obtain ⟨k, y, h1, _, h3⟩ := thoL_mem ha
    exact ⟨k, (List.getElem?_eq_some_iff.1 h1).1, by rw [h3]; simp⟩
  intro p hp
  obtain ⟨i, hi⟩ := List.mem_iff_getElem?.1 hp
  have hl : i < (mtL (thoL 2 E 0) (thoL 3 E 0) (thoL 4 E 0)).length := by
    have := (List.getElem?_eq_some_iff.1 hi).1
    rw [chS_len] at this; exact this
  have hm := chS_get _ β i _ (List.getElem?_eq_getElem hl)
  rw [hi] at hm
  have hp' := Option.some.inj hm
  obtain ⟨h1, h2, h3, h4⟩ := hin _ (List.getElem_mem hl)
  generalize (mtL (thoL 2 E 0) (thoL 3 E 0) (thoL 4 E 0))[i] = m at *
  obtain ⟨k1, l1, e1⟩ := hev h1
  obtain ⟨k2, l2, e2⟩ := hev h2
  obtain ⟨k3, l3, e3⟩ := hev h3
  obtain ⟨k4, l4, e4⟩ := hev h4
  rw [hp']
  unfold pick
  split
  · exact ⟨k3, k1, l3, l1, by rw [e3, e1]⟩
  · exact ⟨k2, k4, l2, l4, by rw [e2, e4]⟩

/-- Parting hangs on the arrows between events alone. -/
theorem Parts.congr {n : Nat} {ms : List Mt} {A B : List (Int × Int)} (h : ∀ a b : Nat, a < n → b < n → (((a : Int), (b : Int)) ∈ A ↔ ((a : Int), (b : Int)) ∈ B)) : Parts n ms A ↔ Parts n ms B := by
  induction ms generalizing A B with
  | nil => exact not_congr (Cyc.iff h)
  | cons m ms ih =>
    have step : ∀ p : Int × Int, ∀ a b : Nat, a < n → b < n → (((a : Int), (b : Int)) ∈ A ++ [p] ↔ ((a : Int), (b : Int)) ∈ B ++ [p]) := fun p a b ha hb => by
      rw [List.mem_append, List.mem_append, h a b ha hb]
    exact and_congr (not_congr (Cyc.iff h)) (or_congr (ih (step _)) (ih (step _)))

theorem JudIs.congr' {P P' : Prop} {t t' : Bool} {Q Q' S S' : Prop} {r : Int} (h : JudIs P t Q S r) (hP : P ↔ P') (ht : t = t') (hQ : Q ↔ Q') (hS : S ↔ S') : JudIs P' t' Q' S' r := by
  have e1 : P = P' := propext hP
  have e2 : Q = Q' := propext hQ
  have e3 : S = S' := propext hS
  subst e1 e2 e3 ht
  exact h

theorem judge_same' {T : List (List Ins)} {E : List Evt} (hE : E = evsT T 0) (hl : E.length ≤ 96) (hloc : ∀ y ∈ E, locB y.loc = true) {x : Exe} (hx : IsEx E x) {ms : List Mt} :
    (Cyc E.length (cohB E x) ↔ Cyc E.length (cohA E x)) ∧ tornQ (torQ E (rankG E.length (srcL E x.from') x.order)) E.length = tornB E x ∧ (Cyc E.length (kepQ T E x) ↔ Cyc E.length (kepA T E x)) ∧ (¬ Parts E.length ms (kepQ T E x) ↔ ¬ Parts E.length ms (kepA T E x)) := by
  obtain ⟨h1, h2, h3⟩ := judge_same hE hl hloc hx
  have hr := hx.ranks hl hloc
  refine ⟨h1, h2, h3, not_congr (Parts.congr fun a b ha hb => ?_)⟩
  unfold kepQ kepA exQ
  rw [List.mem_append, List.mem_append, exec_iff hloc hr ha hb, allU_mem, allD_mem]
  constructor
  · rintro (h | ⟨h1, h2, h3⟩)
    · exact .inl h
    · exact .inr ⟨h1, h2, by rw [kept_same hE h2]; exact h3⟩
  · rintro (h | ⟨h1, h2, h3⟩)
    · exact .inl h
    · exact .inr ⟨h1, h2, by rw [← kept_same hE h2]; exact h3⟩

end Go.Proofs.YtomijmikkbhgmaaGreat

namespace Go.Proofs.YtomijmikkbhgmaaGreat
open Go.RowKit

theorem i64_and1 (n : Int) : bits .and .i64 n 1 = n % 2 := by
  have h1 : (BitVec.ofInt 64 1).toNat = 2 ^ 1 - 1 := by decide
  have key : (BitVec.ofInt 64 n &&& BitVec.ofInt 64 1).toNat = (n % ((2 ^ 64 : Nat) : Int)).toNat % 2 ^ 1 := by
    rw [BitVec.toNat_and, BitVec.toNat_ofInt, h1, Nat.and_two_pow_sub_one_eq_mod]
  show IntKind.i64.wrap ((BitVec.ofInt 64 n &&& BitVec.ofInt 64 1).toNat : Nat) = n % 2
  rw [key, IntKind.wrap_i64]
  omega

theorem chS_take {ms : List Mt} {β : Nat → Bool} {k : Nat} {m : Mt} (h : ms[k]? = some m) : (chS β ms).take (k + 1) = (chS β ms).take k ++ [pick (β k) m] := by
  rw [List.take_add_one, chS_get ms β k m h]; rfl

theorem pow_small {n : Nat} (h : n ≤ 6) : 2 ^ n ≤ 64 := by
  have : 2 ^ n ≤ 2 ^ 6 := Nat.pow_le_pow_right (by omega) h
  simpa using this

set_option maxRecDepth 20000 in
set_option maxHeartbeats 2000000 in
theorem spanning_any (E : List Evt) (hE : E.length ≤ 96) (hM : Mts E) (A : List (Int × Int)) (hA : Arws E.length A) (hl : A.length ≤ 100000) (v u : Value) (w : World) (hev : Ev9At w v E) (hu : ArwAt w u A) :
    Calls Tryz.prog 115 #[v, u] w fun e w' => ∃ b : Bool, e = .returned (.bool b) ∧ (b = true ↔ ¬ Parts E.length (mtL (thoL 2 E 0) (thoL 3 E 0) (thoL 4 E 0)) A) ∧ Below w.heap.size w w' := by
  have HT : Hid (∀ w', Below w.heap.size w w' → ∀ kd : Int, Calls Tryz.prog 149 #[v, .int .i64 kd] w' fun e w'' => ∃ u, e = .returned u ∧ IntNew w'.heap.size w'' u (thoL kd E 0) ∧ Below w'.heap.size w' w'') := fun w' hb kd => those_any E hE kd v w' (hev.keep hb)
  have hbe := hM.be
  have hb3 := hM.b3
  have hs2 := hM.s2
  have hml := mtL_len (thoL 2 E 0) (thoL 3 E 0) (thoL 4 E 0) hbe
  have hn6 : (thoL 2 E 0).length * (thoL 4 E 0).length ≤ 6 := Nat.le_trans (Nat.mul_le_mul hb3 hs2) (by decide)
  have HC0 : Hid (∀ (w' : World) (u : Value) (β : Nat → Bool), ArwAt w' u (A ++ chS β (mtL (thoL 2 E 0) (thoL 3 E 0) (thoL 4 E 0))) → Calls Tryz.prog 114 #[.int .i64 E.length, u] w' fun e w'' => ∃ b : Bool, e = .returned (.bool b) ∧ (b = true ↔ Cyc E.length (A ++ chS β (mtL (thoL 2 E 0) (thoL 3 E 0) (thoL 4 E 0)))) ∧ Below w'.heap.size w' w'') := fun w' u β hu =>
    circle_any E.length (by omega) _ (hA.append (chS_arws hM β)) (by rw [List.length_append, chS_len]; omega) u w' hu
  have HPB : Hid (Parts E.length (mtL (thoL 2 E 0) (thoL 3 E 0) (thoL 4 E 0)) A ↔ ∃ c, c < 2 ^ (mtL (thoL 2 E 0) (thoL 3 E 0) (thoL 4 E 0)).length ∧ ¬ Cyc E.length (A ++ chS (bitB c) (mtL (thoL 2 E 0) (thoL 3 E 0) (thoL 4 E 0)))) := parts_bits _ _ _
  have HGET : Hid (∀ (k j : Nat) (x y z : Int), (thoL 2 E 0)[k]? = some x → (thoL 3 E 0)[k]? = some y → (thoL 4 E 0)[j]? = some z → (mtL (thoL 2 E 0) (thoL 3 E 0) (thoL 4 E 0))[k * (thoL 4 E 0).length + j]? = some ⟨x, y, z, z + 1⟩) := fun k j x y z h1 h2 h3 => mtL_get h1 h2 h3
  have HZ : Hid (∀ z ∈ thoL 4 E 0, 0 ≤ z ∧ z ≤ 1000) := fun z hz => by
    obtain ⟨k, y, h1, _, h3⟩ := thoL_mem hz
    have := (List.getElem?_eq_some_iff.1 h1).1
    omega
  obtain ⟨ao, b, off, cap, hv, _⟩ := hev
  obtain ⟨aoA, bA, offA, capA, hsA⟩ := hu
  have hvA := hsA.hv
  subst hv hvA
  have HSA : Hid (SlAt w 2 ArwC (.slice aoA A.length capA) A aoA bA offA capA) := hsA
  obtain ⟨i0, hi, hz0, hz1, hz2⟩ := info_parts Tryz.infoArw
  have HI : Hid (Tryz.prog.info? 178 = some i0 ∧ i0.zero = some (.agg #[.int .i64 0, .int .i64 0]) ∧ i0.size = 2 ∧ i0.bytes = 16) := ⟨hi, hz0, hz1, hz2⟩
  clear hi hz0 hz1 hz2 hsA hA
  generalize mtL (thoL 2 E 0) (thoL 3 E 0) (thoL 4 E 0) = MS at HC0 HPB HGET hml ⊢
  have H2 := HT.out w (Below.refl _ _) 2
  go_enter Tryz.func115, Tryz.ntmps115
  go_wp2_with fail
  refine H2.mono ?_
  clear H2
  rintro e w2 ⟨u2, rfl, hu2, hb2⟩
  obtain ⟨ao2, b2, off2, cap2, ⟨hv2, ha2, _, hc2⟩, _⟩ := hu2
  subst hv2
  go_wp2_with fail
  refine (HT.out w2 hb2 3).mono ?_
  rintro e w3 ⟨u3, rfl, hu3, hb3'⟩
  obtain ⟨ao3, b3, off3, cap3, ⟨hv3, ha3, _, hc3⟩, _⟩ := hu3
  subst hv3
  have hbw3 := below_more hb2 hb3'
  go_wp2_with fail
  refine (HT.out w3 hbw3 4).mono ?_
  rintro e w4 ⟨u4, rfl, hu4, hb4⟩
  obtain ⟨ao4, b4, off4, cap4, ⟨hv4, ha4, _, hc4⟩, _⟩ := hu4
  subst hv4
  have hbw4 := below_more hbw3 hb4
  have HL2 : Hid (∀ k x, (thoL 2 E 0)[k]? = some x → w4.cell? ⟨b2, off2 + k, none⟩ = some (.int .i64 x)) := fun k x hx => by
    have := keep_cell (below_more hb3' hb4) (hc2 k x hx)
    rw [Nat.mul_one] at this; exact this
  have HL3 : Hid (∀ k x, (thoL 3 E 0)[k]? = some x → w4.cell? ⟨b3, off3 + k, none⟩ = some (.int .i64 x)) := fun k x hx => by
    have := keep_cell hb4 (hc3 k x hx)
    rw [Nat.mul_one] at this; exact this
  have HL4 : Hid (∀ k x, (thoL 4 E 0)[k]? = some x → w4.cell? ⟨b4, off4 + k, none⟩ = some (.int .i64 x)) := fun k x hx => by
    have := hc4 k x hx
    unfold IntC at this
    rw [Nat.mul_one] at this; exact this
  clear hb4 hbw3 hc2 hc3 hc4 hb2 hb3' HT
  generalize thoL 2 E 0 = L2 at *
  generalize thoL 3 E 0 = L3 at *
  generalize thoL 4 E 0 = L4 at *
  have hnn : (L2.length : Int) * (L4.length : Int) = ((L2.length * L4.length : Nat) : Int) := by simp
  generalize hNN : L2.length * L4.length = n at *
  have hp2 : (2 : Int) ^ n = ((2 ^ n : Nat) : Int) := by simp
  have hp64 := pow_small hn6
  have hPB := HPB.out
  rw [hml] at hPB
  have HPB2 : Hid (Parts E.length MS A ↔ ∃ c, c < 2 ^ n ∧ ¬ Cyc E.length (A ++ chS (bitB c) MS)) := hPB
  clear hPB HPB
  generalize hPW : 2 ^ n = P at hp2 hp64 HPB2
  clear hM
  go_wp2_with fail
  go_loopw [9] (fun i wr => ∃ c : Nat, c ≤ P ∧ i = .int .i64 c ∧ Hid (∀ c', c' < c → Cyc E.length (A ++ chS (bitB c') MS)) ∧ Below w4.heap.size w4 wr) (fun i _ => P - (intOf i).toNat)
  case atStart => exact ⟨0, Nat.zero_le _, rfl, fun c' h => by omega, Below.refl _ _⟩
  case round =>
    obtain ⟨c, hc, rfl, hall, hb⟩ := hrel
    have HALL := hall
    clear hall
    by_cases hlt : c < P
    · have hbw := below_more hbw4 hb
      have HS2 : Hid (SlAt wr 2 ArwC (.slice aoA A.length capA) A aoA bA offA capA) := HSA.out.keep arwC_keeps hbw
      have hsz := hbw.size
      have hcI : (c : Int) < (P : Int) := by omega
      go_wp2_with (at_builtin; refine append_new _ rfl _ _ 151 rfl w4.heap.size 178 i0 (.agg #[.int .i64 0, .int .i64 0]) 2 16 Tryz.underlying151 HI.out.1 HI.out.2.1 HI.out.2.2.1 HI.out.2.2.2 rfl (by decide) (.slice none 0 0) 0 [] rfl (World.ownsRow_nil _ _ _ _) aoA A.length capA (A.flatMap arwV) rfl (fun h => by have := HS2.out.hn h; exact ⟨by rw [this.1]; rfl, this.2⟩) (flat_len arwV 2 (fun _ => rfl) A) (arw_cells HS2.out) (by intro u hu; obtain ⟨p, _, hp⟩ := List.mem_flatMap.1 hu; simp [arwV] at hp; rcases hp with rfl | rfl <;> rfl) (by unfold maxLen; omega) (by omega) hb.size ?_)
      intro u' w5 hown' hgrow _
      have hb5 : Below w4.heap.size w4 w5 := Below.grown hb hgrow hb.size (fun kk e => by cases e)
      have HA5 : Hid (ArwOwn w4.heap.size w5 u' (A ++ (chS (bitB c) MS).take 0)) := by
        show ArwOwn w4.heap.size w5 u' (A ++ [])
        rw [List.append_nil]
        unfold ArwOwn; simpa using hown'
      clear hgrow hown' hb hbw hsz HS2
      go_wp2_with fail
      go_loopw [10, 11] (fun u i wr => ∃ k : Nat, k ≤ n ∧ i = .int .i64 k ∧ Hid (ArwOwn w4.heap.size wr u (A ++ (chS (bitB c) MS).take k)) ∧ Below w4.heap.size w4 wr) (fun _ i _ => n - (intOf i).toNat)
      case atStart => exact ⟨0, Nat.zero_le _, rfl, HA5.out, hb5⟩
      case round =>
        clear HA5 hb5
        obtain ⟨k, hk, rfl, hown, hb⟩ := hrel
        have HO := hown
        clear hown
        by_cases hkn : k < n
        · have hL4 : 0 < L4.length := Nat.pos_of_ne_zero (fun h0 => by rw [h0, Nat.mul_zero] at hNN; omega)
          have hsec : k / L4.length < L2.length := (Nat.div_lt_iff_lt_mul hL4).2 (by omega)
          have hsyn : k % L4.length < L4.length := Nat.mod_lt _ hL4
          have hdm : k / L4.length * L4.length + k % L4.length = k := Nat.div_add_mod' k L4.length
          have e1 : (k : Int) / (L4.length : Int) = ((k / L4.length : Nat) : Int) := by simp
          have e2 : (k : Int) % (L4.length : Int) = ((k % L4.length : Nat) : Int) := by simp
          generalize k / L4.length = sec at *
          generalize k % L4.length = syn at *
          obtain ⟨x2, hx2⟩ := get_of_lt hsec
          obtain ⟨x3, hx3⟩ := get_of_lt (l := L3) (k := sec) (by omega)
          obtain ⟨x4, hx4⟩ := get_of_lt hsyn
          have hget := HGET.out sec syn x2 x3 x4 hx2 hx3 hx4
          rw [hdm] at hget
          have HTK : Hid (A ++ (chS (bitB c) MS).take (k + 1) = (A ++ (chS (bitB c) MS).take k) ++ [pick (bitB c k) ⟨x2, x3, x4, x4 + 1⟩]) := by show _ = _; rw [chS_take hget]; simp
          have hlen1 : (A ++ (chS (bitB c) MS).take k).length ≤ 100010 := by rw [List.length_append, List.length_take]; omega
          obtain ⟨hz1, hz2⟩ := HZ.out x4 (List.mem_of_getElem? hx4)
          have c2 := keep_cell hb (HL2.out sec x2 hx2)
          have c3 := keep_cell hb (HL3.out sec x3 hx3)
          have c4 := keep_cell hb (HL4.out syn x4 hx4)
          obtain rfl := ha2 (ne_nil hsec)
          obtain rfl := ha3 (ne_nil (k := sec) (by omega))
          obtain rfl := ha4 (ne_nil hsyn)
          have e3 : (c : Int) / 2 ^ k = ((c / 2 ^ k : Nat) : Int) := by simp
          have e4 : bits .and .i64 ((c / 2 ^ k : Nat) : Int) 1 = ((c / 2 ^ k % 2 : Nat) : Int) := by rw [i64_and1]; simp
          have hbit : bitB c k = (c / 2 ^ k % 2 == 1) := rfl
          have hm2 : c / 2 ^ k % 2 < 2 := Nat.mod_lt _ (by omega)
          generalize c / 2 ^ k = ck at *
          generalize ck % 2 = β at *
          have hs2I : (sec : Int) < (L2.length : Int) := by omega
          have hs3I : (sec : Int) < (L3.length : Int) := by omega
          have hs4I : (syn : Int) < (L4.length : Int) := by omega
          have hkI : (k : Int) < (n : Int) := by omega
          have hL4I : (0 : Int) < (L4.length : Int) := by omega
          have hwz : IntKind.i64.wrap (x4 + 1) = x4 + 1 := by rw [IntKind.wrap_i64]; omega
          have hsz := hb.size
          generalize A ++ (chS (bitB c) MS).take k = A1 at HO HTK hlen1
          clear hget hx2 hx3 hx4 hdm
          match β, hm2 with
          | 0, _ =>
            have HM : Hid (A ++ (chS (bitB c) MS).take (k + 1) = A1 ++ [(x3, x4 + 1)]) := by rw [HTK.out, hbit]; rfl
            clear HTK
            go_wp2_with fail
            go_region_law (refine step_append_new _ rfl (.tmp 53) (.tmp 64) 151 rfl w4.heap.size 178 i0 (.agg #[.int .i64 0, .int .i64 0]) 2 16 Tryz.underlying151 HI.out.1 HI.out.2.1 HI.out.2.2.1 HI.out.2.2.2 rfl (by decide) u10 A1.length (A1.flatMap arwV) (by simp [Act.eval]) (HO.out.drew.alloc _) (some ⟨wr.heap.size, 0, none⟩) 1 1 (arwV (x3, x4 + 1)) (by simp [Act.eval]) (fun h => by cases h) rfl (fun ad had => by cases had; exact new_many rfl) (by simp [arwV, Value.oneCell']) (by unfold maxLen; omega) (by omega) (by simp; omega) ?_; intro u7 w7 hown7 hgrow7 hap7)
            all_goals
              have hb7 : Below w4.heap.size w4 w7 := Below.grown (hb.drew.alloc (by simp; omega) _) hgrow7 (by simp; omega) (fun kk e => (HO.out.lt kk e).1)
              have HO7 : Hid (ArwOwn w4.heap.size w7 u7 (A ++ (chS (bitB c) MS).take (k + 1))) := by rw [HM.out]; exact arw_snoc hown7
              clear hgrow7 hown7 hap7
              go_wp2_with fail
              go_roundw
              case measure => simp [intOf]; omega
              case rel => exact ⟨k + 1, by omega, by go_num, HO7.out, hb7⟩
          | 1, _ =>
            have HM : Hid (A ++ (chS (bitB c) MS).take (k + 1) = A1 ++ [(x4, x2)]) := by rw [HTK.out, hbit]; rfl
            clear HTK
            go_wp2_with fail
            go_region_law (refine step_append_new _ rfl (.tmp 66) (.tmp 76) 151 rfl w4.heap.size 178 i0 (.agg #[.int .i64 0, .int .i64 0]) 2 16 Tryz.underlying151 HI.out.1 HI.out.2.1 HI.out.2.2.1 HI.out.2.2.2 rfl (by decide) u10 A1.length (A1.flatMap arwV) (by simp [Act.eval]) (HO.out.drew.alloc _) (some ⟨wr.heap.size, 0, none⟩) 1 1 (arwV (x4, x2)) (by simp [Act.eval]) (fun h => by cases h) rfl (fun ad had => by cases had; exact new_many rfl) (by simp [arwV, Value.oneCell']) (by unfold maxLen; omega) (by omega) (by simp; omega) ?_; intro u7 w7 hown7 hgrow7 hap7)
            all_goals
              have hb7 : Below w4.heap.size w4 w7 := Below.grown (hb.drew.alloc (by simp; omega) _) hgrow7 (by simp; omega) (fun kk e => (HO.out.lt kk e).1)
              have HO7 : Hid (ArwOwn w4.heap.size w7 u7 (A ++ (chS (bitB c) MS).take (k + 1))) := by rw [HM.out]; exact arw_snoc hown7
              clear hgrow7 hown7 hap7
              go_wp2_with fail
              go_roundw
              case measure => simp [intOf]; omega
              case rel => exact ⟨k + 1, by omega, by go_num, HO7.out, hb7⟩
          | β + 2, h => omega
        · have hkn2 : k = n := by omega
          have htk : Hid ((chS (bitB c) MS).take k = chS (bitB c) MS) := List.take_of_length_le (by rw [chS_len]; omega)
          have HA6 : Hid (ArwAt wr u10 (A ++ chS (bitB c) MS)) := by have := HO.out.at'; rw [htk.out] at this; exact this
          have hkI : (n : Int) ≤ (k : Int) := by omega
          go_wp2_with fail
          refine (HC0.out _ _ (bitB c) HA6.out).mono ?_
          rintro e w7 ⟨b7, rfl, hi7, hb7⟩
          have HB7 : Hid (b7 = true ↔ Cyc E.length (A ++ chS (bitB c) MS)) := hi7
          have hb8 := below_more hb hb7
          clear hi7
          cases b7
          · have HP : Hid (Parts E.length MS A) := HPB2.out.2 ⟨c, hlt, fun h => by have := HB7.out.2 h; cases this⟩
            go_wp2_with fail
            go_ret
            exact ⟨false, rfl, ⟨fun h => (by cases h), fun h => absurd HP.out h⟩, below_more hbw4 hb8⟩
          · have HC : Hid (∀ c', c' < c + 1 → Cyc E.length (A ++ chS (bitB c') MS)) := fun c' h => by
              by_cases e : c' = c
              · subst e; exact HB7.out.1 rfl
              · exact HALL.out c' (by omega)
            go_wp2_with fail
            go_roundw
            case measure => simp [intOf]; omega
            case rel => exact ⟨c + 1, by omega, by go_num, HC.out, hb8⟩
    · have HNP : Hid (¬ Parts E.length MS A) := fun h => by
        obtain ⟨c', h1, h2⟩ := HPB2.out.1 h
        exact h2 (HALL.out c' (by omega))
      have hcI : (P : Int) ≤ (c : Int) := by omega
      go_wp2_with fail
      go_ret
      exact ⟨true, rfl, ⟨fun _ => HNP.out, fun _ => rfl⟩, below_more hbw4 hb⟩

set_option maxRecDepth 20000 in
set_option maxHeartbeats 1000000 in
theorem judge_any (T : List (List Ins)) (hS : Short T) (fa : Bool) (c : List Atm) (vt vc : Value) (E : List Evt) (hE : E.length ≤ 96) (hin : EvsIn T E) (hloc : ∀ y ∈ E, locB y.loc = true) (hM : Mts E) (x : Exe) (hX : XOk E x) (v vf vo : Value) (w : World) (ht : TestAt w (.agg #[vt, .bool fa, vc]) T fa c vt vc) (hev : Ev9At w v E) (hx : ExeC w vf vo x) :
    Calls Tryz.prog 56 #[.agg #[vt, .bool fa, vc], v, .agg #[vf, vo]] w fun e w' => ∃ r : Int, e = .returned (.int .i64 r) ∧ JudIs (Cyc E.length (cohA E x)) (tornB E x) (Cyc E.length (kepA T E x)) (¬ Parts E.length (mtL (thoL 2 E 0) (thoL 3 E 0) (thoL 4 E 0)) (kepA T E x)) r ∧ Below w.heap.size w w' := by
  have HI : Hid (∀ w', Below w.heap.size w w' → Calls Tryz.prog 111 #[v, .agg #[vf, vo]] w' fun e w'' => ∃ b : Bool, e = .returned (.bool b) ∧ (b = true ↔ Cyc E.length (cohA E x)) ∧ Below w'.heap.size w' w'') := fun w' hb => incoherent_any E hE hloc x hX v vf vo w' (hev.keep hb) (hx.keep hb)
  have HT : Hid (∀ w', Below w.heap.size w w' → Calls Tryz.prog 112 #[v, .agg #[vf, vo]] w' fun e w'' => e = .returned (.bool (tornB E x)) ∧ Below w'.heap.size w' w'') := fun w' hb => torn_any E hE hloc x hX v vf vo w' (hev.keep hb) (hx.keep hb)
  have HK : Hid (∀ w', Below w.heap.size w w' → Calls Tryz.prog 113 #[.agg #[vt, .bool fa, vc], v, .agg #[vf, vo]] w' fun e w'' => ∃ u, e = .returned u ∧ ArwOwn w'.heap.size w'' u (kepA T E x) ∧ Below w'.heap.size w' w'') := fun w' hb => kept_any T hS fa c vt vc E hE hin hloc x hX v vf vo w' (ht.keep hb) (hev.keep hb) (hx.keep hb)
  have hkl := kepA_len (T := T) hE hX
  have har : Arws E.length (kepA T E x) := hX.ar.append (allD_arws _ _)
  have HC : Hid (∀ w' u, ArwAt w' u (kepA T E x) → Calls Tryz.prog 114 #[.int .i64 E.length, u] w' fun e w'' => ∃ b : Bool, e = .returned (.bool b) ∧ (b = true ↔ Cyc E.length (kepA T E x)) ∧ Below w'.heap.size w' w'') := fun w' u hu => circle_any E.length (by omega) _ har (by omega) u w' hu
  have HSP : Hid (∀ w' u, Below w.heap.size w w' → ArwAt w' u (kepA T E x) → Calls Tryz.prog 115 #[v, u] w' fun e w'' => ∃ b : Bool, e = .returned (.bool b) ∧ (b = true ↔ ¬ Parts E.length (mtL (thoL 2 E 0) (thoL 3 E 0) (thoL 4 E 0)) (kepA T E x)) ∧ Below w'.heap.size w' w'') := fun w' u hb hu => spanning_any E hE hM _ har hkl v u w' (hev.keep hb) hu
  generalize (¬ Parts E.length (mtL (thoL 2 E 0) (thoL 3 E 0) (thoL 4 E 0)) (kepA T E x)) = SP at HSP ⊢
  obtain ⟨aof, capf, hvf⟩ := hx.f.form
  obtain ⟨aoo, bo, offo, capo, hso⟩ := hx.o
  have hvo := hso.hv
  obtain ⟨ao, b, off, cap, hv, ha, _, hc⟩ := hev
  subst hv hvf hvo
  generalize hP : Cyc E.length (cohA E x) = P at *
  generalize tornB E x = tb at *
  generalize hQ : Cyc E.length (kepA T E x) = Q at *
  generalize kepA T E x = KA at *
  clear hS hin hloc hM hX ht hx hc ha hso hkl har hP hQ
  go_enter Tryz.func56, Tryz.ntmps56
  go_wp2_with fail
  refine (HI.out _ (below_two _ _ _)).mono ?_
  rintro e w2 ⟨b2, rfl, hi2, hb2⟩
  have hbw2 := below_more (below_two w (.cells #[vt, .bool fa, vc] 25) (.cells #[.slice aof x.from'.length capf, .slice aoo x.order.length capo] 29)) hb2
  have t0 := keep_cell hb2 (b := w.heap.size) (off := 0) (u := vt) (by simp)
  have t1 := keep_cell hb2 (b := w.heap.size) (off := 1) (u := .bool fa) (by simp)
  have t2 := keep_cell hb2 (b := w.heap.size) (off := 2) (u := vc) (by simp)
  have x0 := keep_cell hb2 (b := w.heap.size + 1) (off := 0) (u := .slice aof x.from'.length capf) (by simp)
  have x1 := keep_cell hb2 (b := w.heap.size + 1) (off := 1) (u := .slice aoo x.order.length capo) (by simp)
  have HP2 : Hid (b2 = true ↔ P) := hi2
  clear hi2
  cases b2
  · have hnP : ¬ P := fun h => by have := HP2.out.2 h; cases this
    have HNP : Hid (¬ P) := hnP
    clear hnP
    go_wp2_with fail
    refine (HT.out w2 hbw2).mono ?_
    rintro e w3 ⟨rfl, hb3⟩
    have hbw3 := below_more hbw2 hb3
    replace t0 := keep_cell hb3 t0
    replace t1 := keep_cell hb3 t1
    replace t2 := keep_cell hb3 t2
    replace x0 := keep_cell hb3 x0
    replace x1 := keep_cell hb3 x1
    cases tb
    · go_wp2_with fail
      refine (HK.out w3 hbw3).mono ?_
      rintro e w4 ⟨u4, rfl, hu4, hb4⟩
      have hbw4 := below_more hbw3 hb4
      have HU4 : Hid (ArwAt w4 u4 KA) := hu4.at'
      clear hu4
      go_wp2_with fail
      refine (HC.out w4 u4 HU4.out).mono ?_
      rintro e w5 ⟨b5, rfl, hi5, hb5⟩
      have hbw5 := below_more hbw4 hb5
      have HQ5 : Hid (b5 = true ↔ Q) := hi5
      clear hi5
      cases b5
      · have HNQ : Hid (¬ Q) := fun h => by have := HQ5.out.2 h; cases this
        go_wp2_with fail
        refine (HSP.out w5 u4 hbw5 (HU4.out.keep hb5)).mono ?_
        rintro e w6 ⟨b6, rfl, hi6, hb6⟩
        have H6 : Hid (b6 = true ↔ SP) := hi6
        clear hi6
        cases b6
        · go_wp2_with fail
          go_ret
          exact ⟨0, rfl, .inr ⟨HNP.out, .inr ⟨rfl, .inr ⟨HNQ.out, .inr ⟨fun h => (by have := H6.out.2 h; cases this), rfl⟩⟩⟩⟩, below_more hbw5 hb6⟩
        · go_wp2_with fail
          go_ret
          exact ⟨4, rfl, .inr ⟨HNP.out, .inr ⟨rfl, .inr ⟨HNQ.out, .inl ⟨rfl, H6.out.1 trivial⟩⟩⟩⟩, below_more hbw5 hb6⟩
      · go_wp2_with fail
        go_ret
        exact ⟨3, rfl, .inr ⟨HNP.out, .inr ⟨rfl, .inl ⟨rfl, HQ5.out.1 trivial⟩⟩⟩, hbw5⟩
    · go_wp2_with fail
      go_ret
      exact ⟨2, rfl, .inr ⟨HNP.out, .inl ⟨rfl, rfl⟩⟩, hbw3⟩
  · go_wp2_with fail
    go_ret
    exact ⟨1, rfl, .inl ⟨rfl, HP2.out.1 trivial⟩, hbw2⟩


end Go.Proofs.YtomijmikkbhgmaaGreat

namespace Go.Proofs.YtomijmikkbhgmaaGreat
open Go.RowKit

theorem Tryz.sizeBool : (Tryz.prog.info? 4).map (·.size) = some 1 := by kernel_rfl

theorem mat_row {w : World} {bl n : Nat} {A : List (Int × Int)} {t : TypeId} (ht : t = 4) (h : w.heap[bl]? = some (.cells ((List.range (n * n)).map fun q => Value.bool (arwB A (q / n) (q % n))).toArray t (0, 0))) : MatAt w bl n A := by
  subst ht
  exact ⟨_, h, by simp, fun i hi => by simp [hi]⟩

set_option maxRecDepth 20000 in
set_option maxHeartbeats 1000000 in
theorem with_any (n : Nat) (hn : n ≤ 96) (_h0 : 0 < n) (A : List (Int × Int)) (p bl : Nat) (x y : Int) (w : World) (h : SetAt w p bl n A) :
    Calls Tryz.prog 143 #[.pointer (some ⟨p, 0, none⟩), .int .i64 x, .int .i64 y] w fun e w' => ∃ bl', e = .returned (.agg #[.int .i64 n, .slice (some ⟨bl', 0, none⟩) (n * n) (n * n)]) ∧ w.heap.size ≤ bl' ∧ MatAt w' bl' n (A ++ [(x, y)]) ∧ Below w.heap.size w w' := by
  have HS : Hid (SetAt w p bl n A) := h
  obtain ⟨c0, c1, _, _⟩ := h
  have m0 := World.block_lt_of_cell? _ _ c0
  simp only at m0
  go_enter Tryz.func143, Tryz.ntmps143
  go_wp2_with fail
  refine (new_any n hn _).mono ?_
  rintro e w2 ⟨rfl, hm2, hb2⟩
  rw [World.size_alloc] at hm2 hb2 ⊢
  have hs2 : w.heap.size + 1 + 1 < w2.heap.size := hm2.lt
  have hbw2 : Below w.heap.size w w2 := (below_alloc _ _).trans (hb2.mono (by omega))
  have d0 : w2.cell? ⟨w.heap.size, 0, none⟩ = some (.int .i64 0) := (hb2.cell (p := ⟨w.heap.size, 0, none⟩) (by simp)).trans (by simp)
  have d1 : w2.cell? ⟨w.heap.size, 1, none⟩ = some (.slice none 0 0) := (hb2.cell (p := ⟨w.heap.size, 1, none⟩) (by simp)).trans (by simp)
  have z0 : w2.frozen? ⟨w.heap.size, 0, none⟩ = false := (hb2.frozen (p := ⟨w.heap.size, 0, none⟩) (by simp)).trans (by simp)
  have z1 : w2.frozen? ⟨w.heap.size, 1, none⟩ = false := (hb2.frozen (p := ⟨w.heap.size, 1, none⟩) (by simp)).trans (by simp)
  have HD : Hid (w2.cell? ⟨w.heap.size, 0, none⟩ = some (.int .i64 0) ∧ w2.cell? ⟨w.heap.size, 1, none⟩ = some (.slice none 0 0) ∧ w2.frozen? ⟨w.heap.size, 0, none⟩ = false ∧ w2.frozen? ⟨w.heap.size, 1, none⟩ = false) := ⟨d0, d1, z0, z1⟩
  clear hb2 c0 c1 d0 d1 z0 z1
  obtain ⟨bl', hbl⟩ : ∃ bl', w.heap.size + 1 + 1 = bl' := ⟨_, rfl⟩
  rw [hbl] at hm2 hs2 ⊢
  have hblw : w.heap.size < bl' := by omega
  clear hbl
  have hba := below_alloc w2 (.cells #[.int .i64 n, .slice (some ⟨bl', 0, none⟩) (n * n) (n * n)] 141)
  obtain ⟨cur, hcur, hcsz, _⟩ := hm2
  have HCUR : Hid ((w2.alloc (.cells #[.int .i64 n, .slice (some ⟨bl', 0, none⟩) (n * n) (n * n)] 141)).heap[bl']? = some (.cells cur 4 (0, 0))) := (hba.block bl' hs2).trans hcur
  obtain ⟨c0, c1, hmat, hne⟩ := (HS.out.keep hbw2).keep hba
  have HMAT : Hid (MatAt (w2.alloc (.cells #[.int .i64 n, .slice (some ⟨bl', 0, none⟩) (n * n) (n * n)] 141)) bl n A) := hmat
  have f0 : (w2.alloc (.cells #[.int .i64 n, .slice (some ⟨bl', 0, none⟩) (n * n) (n * n)] 141)).cell? ⟨w2.heap.size, 0, none⟩ = some (.int .i64 n) := by simp
  have f1 : (w2.alloc (.cells #[.int .i64 n, .slice (some ⟨bl', 0, none⟩) (n * n) (n * n)] 141)).cell? ⟨w2.heap.size, 1, none⟩ = some (.slice (some ⟨bl', 0, none⟩) (n * n) (n * n)) := by simp
  have hbW : Below w.heap.size w (w2.alloc (.cells #[.int .i64 n, .slice (some ⟨bl', 0, none⟩) (n * n) (n * n)] 141)) := below_more hbw2 hba
  have HDW : Hid ((w2.alloc (.cells #[.int .i64 n, .slice (some ⟨bl', 0, none⟩) (n * n) (n * n)] 141)).heap[w.heap.size]? = w2.heap[w.heap.size]?) := hba.block _ (by omega)
  have hsW : w2.heap.size < (w2.alloc (.cells #[.int .i64 n, .slice (some ⟨bl', 0, none⟩) (n * n) (n * n)] 141)).heap.size := by simp
  clear hcur hmat hba hbw2
  go_wp2_with fail
  generalize w2.alloc (.cells #[.int .i64 n, .slice (some ⟨bl', 0, none⟩) (n * n) (n * n)] 141) = W at *
  generalize w2.heap.size = p2 at *
  have HF : Hid (W.cell? ⟨p2, 0, none⟩ = some (.int .i64 n) ∧ W.cell? ⟨p2, 1, none⟩ = some (.slice (some ⟨bl', 0, none⟩) (n * n) (n * n))) := ⟨f0, f1⟩
  refine wp_region_still_tail 6 (by kernel_rfl) (by kernel_rfl) ?_
  simp only [List.take_succ_cons, List.take_zero, List.drop_succ_cons, List.drop_zero]
  repeat still_step
  refine wpStill_nil ?_
  obtain ⟨cs, hcs⟩ : ∃ cs, ((List.range (n * n)).map fun q => Value.bool (arwB A (q / n) (q % n))) = cs := ⟨_, rfl⟩
  have hcl : cs.length = n * n := by rw [← hcs, List.length_map, List.length_range]
  have HN : Hid (cs.length = Nat.min (n * n) (n * n)) := by rw [hcl]; exact (Nat.min_self _).symm
  have HSRC : Hid (∀ (j : Nat) (v : Value), cs[j]? = some v → W.drew.cell? ((⟨bl, 0, none⟩ : Addr).add j) = some v) := fun j v hj => by
    rw [← hcs, List.getElem?_map] at hj
    obtain ⟨q, hq, rfl⟩ := Option.map_eq_some_iff.1 hj
    have hql : j < n * n := by have := (List.getElem?_eq_some_iff.1 hq).1; simpa using this
    have hqj : q = j := by rw [List.getElem?_eq_getElem (by simpa using hql)] at hq; simpa using hq.symm
    subst hqj
    rw [Addr.add_lit, Nat.zero_add]
    exact World.rowIs.cell HMAT.out hql
  have HFIT : Hid (0 + cs.length ≤ cur.size) := by show 0 + cs.length ≤ cur.size; omega
  have HONE : Hid (∀ v ∈ cs, v.oneCell' = true) := fun v hv => by rw [← hcs] at hv; obtain ⟨q, _, rfl⟩ := List.mem_map.1 hv; rfl
  have HMT : Hid (∀ w' : World, w'.heap[bl']? = some (.cells cs.toArray 4 (0, 0)) → MatAt w' bl' n A) := fun w' hw' => mat_row rfl (by rw [hcs]; exact hw')
  have HARR : Hid ((cur.toList.take 0 ++ (cs ++ cur.toList.drop (0 + cs.length))).toArray = cs.toArray) := by
    show _ = _
    rw [List.take_zero, List.nil_append, List.drop_eq_nil_of_le (by simp; omega), List.append_nil]
  clear hcs
  refine wpList_copy_own rfl (.tmp 14) (.tmp 18) 139 139 rfl 4 Tryz.underlying139 Tryz.sizeBool bl' 0 (n * n) (n * n) ⟨bl, 0, none⟩ (n * n) (n * n) rfl rfl cur 4 HCUR.out cs HN.out HSRC.out HFIT.out HONE.out ?_
  rw [HARR.out]
  have hoth : ∀ k, k ≠ bl' → (W.drew.setRow bl' cs.toArray).heap[k]? = W.heap[k]? := fun k hk => setRow_other W.drew bl' k _ hk
  have HST : Hid (SetAt (W.drew.setRow bl' cs.toArray) p2 bl' n A) := ⟨cell_heap (hoth p2 (by omega)) HF.out.1, cell_heap (hoth p2 (by omega)) HF.out.2, HMT.out _ (setRow_heap W.drew bl' cur _ _ _ HCUR.out), by omega⟩
  have HON : Hid (Only bl' W (W.drew.setRow bl' cs.toArray)) := ⟨rfl, rfl, rfl, by simp [World.setRow], fun k _ hk => hoth k hk⟩
  clear hoth HMT HARR HONE HFIT HSRC HN HMAT HCUR HF f0 f1 c0 c1
  go_wp2_with fail
  generalize W.drew.setRow bl' cs.toArray = W4 at HST HON ⊢
  refine (add_any n hn A p2 bl' x y W4 HST.out).mono ?_
  rintro e w5 ⟨r5, rfl, hset5, hon5⟩
  have hon : Only bl' W w5 := HON.out.trans hon5
  obtain ⟨s0, s1, hmat5, _⟩ := hset5
  have HMAT : Hid (MatAt w5 bl' n (A ++ [(x, y)])) := hmat5
  have hblk : w5.heap[w.heap.size]? = w2.heap[w.heap.size]? := (hon.block w.heap.size (by have := hbW.size; omega) (by omega)).trans HDW.out
  have d0 := (World.cell?_of_block (w := w2) (a := ⟨w.heap.size, 0, none⟩) hblk).trans HD.out.1
  have d1 := (World.cell?_of_block (w := w2) (a := ⟨w.heap.size, 1, none⟩) hblk).trans HD.out.2.1
  have z0 := (World.frozen?_of_block (w := w2) (a := ⟨w.heap.size, 0, none⟩) hblk).trans HD.out.2.2.1
  have z1 := (World.frozen?_of_block (w := w2) (a := ⟨w.heap.size, 1, none⟩) hblk).trans HD.out.2.2.2
  have hb5 : Below w.heap.size w w5 := hbW.trans (hon.below (by omega) hbW.size)
  clear hmat5 hblk HST HON hon5
  go_wp2_with fail
  refine bodyPost_ret (v := .agg #[.int .i64 n, .slice (some ⟨bl', 0, none⟩) (n * n) (n * n)]) (by simp [results, Tryz.results143, go_sem, *]) rfl ⟨bl', rfl, by omega, ?_, (hb5.setCell (Nat.le_refl _) _).setCell (Nat.le_refl _) _⟩
  exact World.rowIs.setOther (World.rowIs.setOther HMAT.out (by simp; omega) _) (by simp; omega) _

end Go.Proofs.YtomijmikkbhgmaaGreat

namespace Go.Proofs.YtomijmikkbhgmaaGreat
open Go.RowKit

structure MtC (w : World) (b off : Nat) (m : Mt) : Prop where
  c0 : w.cell? ⟨b, off, none⟩ = some (.int .i64 m.b)
  c1 : w.cell? ⟨b, off + 1, none⟩ = some (.int .i64 m.e)
  c2 : w.cell? ⟨b, off + 2, none⟩ = some (.int .i64 m.s)
  c3 : w.cell? ⟨b, off + 3, none⟩ = some (.int .i64 m.f)
theorem mtC_keeps : Keeps MtC := fun _ _ _ _ _ hb h => ⟨keep_cell hb h.c0, keep_cell hb h.c1, keep_cell hb h.c2, keep_cell hb h.c3⟩
def MtAt (w : World) (v : Value) (l : List Mt) : Prop := ∃ ao b off cap, SlAt w 4 MtC v l ao b off cap ∧ l.length ≤ cap
theorem MtAt.keep {w w' : World} {v : Value} {l : List Mt} (h : MtAt w v l) (hb : Below w.heap.size w w') : MtAt w' v l := by
  obtain ⟨ao, b, off, cap, h, hc⟩ := h
  exact ⟨ao, b, off, cap, h.keep mtC_keeps hb, hc⟩

set_option maxRecDepth 20000 in
set_option maxHeartbeats 1000000 in
theorem parted_any (n : Nat) (hn : n ≤ 96) (ms : List Mt) (hms : ms.length ≤ 6) (hne : ms ≠ [] → 0 < n) (A : List (Int × Int)) (bl : Nat) (v : Value) (w : World) (hm : MatAt w bl n A) (hv : MtAt w v ms) :
    Calls Tryz.prog 106 #[.agg #[.int .i64 n, .slice (some ⟨bl, 0, none⟩) (n * n) (n * n)], v] w fun e w' => ∃ b : Bool, e = .returned (.bool b) ∧ (b = true ↔ Parts n ms A) ∧ Below w.heap.size w w' := by
  induction ms generalizing A bl v w with
  | nil =>
    obtain ⟨ao, b, off, cap, ⟨rfl, _, _, _⟩, _⟩ := hv
    have hba := below_alloc w (.cells #[.int .i64 n, .slice (some ⟨bl, 0, none⟩) (n * n) (n * n)] 141)
    have HST : Hid (SetAt (w.alloc (.cells #[.int .i64 n, .slice (some ⟨bl, 0, none⟩) (n * n) (n * n)] 141)) w.heap.size bl n A) := ⟨by simp, by simp, hm.keep hba, by have := hm.lt; omega⟩
    clear hm
    go_enter Tryz.func106, Tryz.ntmps106
    go_wp2_with fail
    refine (hasCircle_any n hn A _ bl _ HST.out).mono ?_
    rintro e w2 ⟨bb, rfl, hbb, hb2⟩
    have HB : Hid (bb = true ↔ Cyc n A) := hbb
    clear hbb
    cases bb
    · go_wp2_with fail
      go_ret
      exact ⟨true, rfl, ⟨fun _ => (fun h => (by have := HB.out.2 h; cases this)), fun _ => rfl⟩, below_more hba hb2⟩
    · go_wp2_with fail
      go_ret
      exact ⟨false, rfl, ⟨fun h => (by cases h), fun h => absurd (HB.out.1 trivial) h⟩, below_more hba hb2⟩
  | cons m ms ih =>
    have h0n : 0 < n := hne (by simp)
    obtain ⟨ao, b, off, cap, ⟨hvv, ha, hnn, hc⟩, hcap⟩ := hv
    subst hvv
    have hao := ha (by simp)
    subst hao
    have hC0 := hc 0 m rfl
    rw [Nat.zero_mul, Nat.add_zero] at hC0
    have HC0 : Hid (MtC w b off m) := hC0
    have HC : Hid (∀ k x, (m :: ms)[k]? = some x → MtC w b (off + k * 4) x) := hc
    have hba := below_alloc w (.cells #[.int .i64 n, .slice (some ⟨bl, 0, none⟩) (n * n) (n * n)] 141)
    have HST : Hid (SetAt (w.alloc (.cells #[.int .i64 n, .slice (some ⟨bl, 0, none⟩) (n * n) (n * n)] 141)) w.heap.size bl n A) := ⟨by simp, by simp, hm.keep hba, by have := hm.lt; omega⟩
    clear hm hC0 hc
    have hl0 : (((m :: ms).length : Int) == 0) = false := by first | (simp; done) | (simp; omega)
    have hl1 : (0 : Int) < ((m :: ms).length : Int) := by first | (simp; done) | (simp; omega)
    have hl2 : (1 : Int) ≤ ((m :: ms).length : Int) := by first | (simp; done) | (simp; omega)
    have hcl : ((m :: ms).length : Int) ≤ (cap : Int) := by omega
    have hLL : (m :: ms).length = ms.length + 1 := by simp
    generalize (m :: ms).length = L at *
    go_enter Tryz.func106, Tryz.ntmps106
    go_wp2_with fail
    refine (hasCircle_any n hn A _ bl _ HST.out).mono ?_
    rintro e w2 ⟨bb, rfl, hbb, hb2⟩
    have HB : Hid (bb = true ↔ Cyc n A) := hbb
    have hbw2 := below_more hba hb2
    clear hbb
    cases bb
    · obtain ⟨c0, c1, c2, c3⟩ := mtC_keeps _ _ _ _ _ hbw2 HC0.out
      have m0 := World.block_lt_of_cell? _ _ c0
      simp only at m0
      obtain ⟨aoX, hX⟩ : ∃ aoX, (if cap = 1 then (some ⟨b, off, none⟩ : Option Addr) else some ⟨b, off + 4, none⟩) = aoX := ⟨_, rfl⟩
      have HRS : Hid (MtAt w (.slice aoX ms.length (cap - 1)) ms) := by
        rw [← hX]
        by_cases e : cap = 1
        · rw [if_pos e]
          have : ms = [] := List.eq_nil_of_length_eq_zero (by omega)
          subst this
          exact ⟨_, b, off, _, ⟨rfl, fun h => absurd rfl h, fun h => by simp at h, fun k x h => by simp at h⟩, Nat.zero_le _⟩
        · rw [if_neg e]
          refine ⟨_, b, off + 4, _, ⟨rfl, fun _ => rfl, fun h => by simp at h, fun k x hx => ?_⟩, by omega⟩
          have := HC.out (k + 1) x (by simpa using hx)
          rw [show off + (k + 1) * 4 = off + 4 + k * 4 by omega] at this
          exact this
      have hba3 := below_alloc w2 (.cells #[.int .i64 m.b, .int .i64 m.e, .int .i64 m.s, .int .i64 m.f] 173)
      have HST3 : Hid (SetAt (w2.alloc (.cells #[.int .i64 m.b, .int .i64 m.e, .int .i64 m.s, .int .i64 m.f] 173)) w.heap.size bl n A) := (HST.out.keep hb2).keep hba3
      have HBX : Hid (∀ w', Below (w2.heap.size + 1) (w2.alloc (.cells #[.int .i64 m.b, .int .i64 m.e, .int .i64 m.s, .int .i64 m.f] 173)) w' → w'.cell? ⟨w2.heap.size, 0, none⟩ = some (.int .i64 m.b) ∧ w'.cell? ⟨w2.heap.size, 2, none⟩ = some (.int .i64 m.s) ∧ w2.heap.size < w'.heap.size) := fun w' hb => by
        have h1 := hb.cell (p := ⟨w2.heap.size, 0, none⟩) (by simp)
        have h2 := hb.cell (p := ⟨w2.heap.size, 2, none⟩) (by simp)
        have h3 := hb.size
        exact ⟨h1.trans (by simp), h2.trans (by simp), by simp at h3; omega⟩
      have hbw3 : Below w.heap.size w (w2.alloc (.cells #[.int .i64 m.b, .int .i64 m.e, .int .i64 m.s, .int .i64 m.f] 173)) := below_more hbw2 hba3
      have HIH : Hid (∀ (A' : List (Int × Int)) (bl' : Nat) (w' : World), Below w.heap.size w w' → MatAt w' bl' n A' → Calls Tryz.prog 106 #[.agg #[.int .i64 n, .slice (some ⟨bl', 0, none⟩) (n * n) (n * n)], .slice aoX ms.length (cap - 1)] w' fun e w'' => ∃ b : Bool, e = .returned (.bool b) ∧ (b = true ↔ Parts n ms A') ∧ Below w'.heap.size w' w'') := fun A' bl' w' hb' hm' => ih (by omega) (fun _ => h0n) A' bl' _ w' hm' (HRS.out.keep hb')
      have HPC : Hid (Parts n (m :: ms) A ↔ ¬ Cyc n A ∧ (Parts n ms (A ++ [(m.e, m.f)]) ∨ Parts n ms (A ++ [(m.s, m.b)]))) := Iff.rfl
      have HNC : Hid (¬ Cyc n A) := fun h => by have := HB.out.2 h; cases this
      clear ih HRS hba3 HST HC0 HC
      go_wp2_with fail
      clear hX c0 c1 c2 c3
      generalize hW3 : w2.alloc (.cells #[.int .i64 m.b, .int .i64 m.e, .int .i64 m.s, .int .i64 m.f] 173) = W3 at *
      have hs3 : W3.heap.size = w2.heap.size + 1 := by rw [← hW3]; simp
      rw [← hs3] at HBX
      generalize w2.heap.size = q5 at *
      refine (with_any n hn h0n A w.heap.size bl m.e m.f W3 HST3.out).mono ?_
      rintro e w4 ⟨bl4, rfl, hbl4, hm4, hb4⟩
      have hbw4 := below_more hbw3 hb4
      have hba4 := below_alloc w4 (.cells #[.int .i64 n, .slice (some ⟨bl4, 0, none⟩) (n * n) (n * n)] 141)
      have HM4 : Hid (MatAt (w4.alloc (.cells #[.int .i64 n, .slice (some ⟨bl4, 0, none⟩) (n * n) (n * n)] 141)) bl4 n (A ++ [(m.e, m.f)])) := hm4.keep hba4
      have hbw5 : Below w.heap.size w (w4.alloc (.cells #[.int .i64 n, .slice (some ⟨bl4, 0, none⟩) (n * n) (n * n)] 141)) := below_more hbw4 hba4
      have hb35 : Below W3.heap.size W3 (w4.alloc (.cells #[.int .i64 n, .slice (some ⟨bl4, 0, none⟩) (n * n) (n * n)] 141)) := below_more hb4 hba4
      clear hm4 hba4
      go_wp2_with fail
      refine (HIH.out _ bl4 _ hbw5 HM4.out).mono ?_
      rintro e w6 ⟨b6, rfl, hi6, hb6⟩
      have H6 : Hid (b6 = true ↔ Parts n ms (A ++ [(m.e, m.f)])) := hi6
      have hbw6 := below_more hbw5 hb6
      have hb36 := below_more hb35 hb6
      clear hi6
      cases b6
      · obtain ⟨g0, g2, gs⟩ := HBX.out w6 hb36
        have HST6 : Hid (SetAt w6 w.heap.size bl n A) := HST3.out.keep hb36
        go_wp2_with fail
        refine (with_any n hn h0n A w.heap.size bl m.s m.b w6 HST6.out).mono ?_
        rintro e w7 ⟨bl7, rfl, hbl7, hm7, hb7⟩
        have hbw7 := below_more hbw6 hb7
        have hba7 := below_alloc w7 (.cells #[.int .i64 n, .slice (some ⟨bl7, 0, none⟩) (n * n) (n * n)] 141)
        have HM7 : Hid (MatAt (w7.alloc (.cells #[.int .i64 n, .slice (some ⟨bl7, 0, none⟩) (n * n) (n * n)] 141)) bl7 n (A ++ [(m.s, m.b)])) := hm7.keep hba7
        have hbw8 : Below w.heap.size w (w7.alloc (.cells #[.int .i64 n, .slice (some ⟨bl7, 0, none⟩) (n * n) (n * n)] 141)) := below_more hbw7 hba7
        clear hm7 hba7 g0 g2
        go_wp2_with fail
        refine (HIH.out _ bl7 _ hbw8 HM7.out).mono ?_
        rintro e w9 ⟨b9, rfl, hi9, hb9⟩
        have H9 : Hid (b9 = true ↔ Parts n ms (A ++ [(m.s, m.b)])) := hi9
        clear hi9
        go_wp2_with fail
        go_ret
        refine ⟨b9, rfl, ?_, below_more hbw8 hb9⟩
        rw [HPC.out, H9.out]
        constructor
        · intro h; exact ⟨HNC.out, .inr h⟩
        · rintro ⟨_, h | h⟩
          · have := H6.out.2 h; cases this
          · exact h
      · go_wp2_with fail
        go_ret
        exact ⟨true, rfl, ⟨fun _ => HPC.out.2 ⟨HNC.out, .inl (H6.out.1 trivial)⟩, fun _ => rfl⟩, hbw6⟩
    · go_wp2_with fail
      go_ret
      exact ⟨false, rfl, ⟨fun h => (by cases h), fun h => absurd (HB.out.1 trivial) h.1⟩, hbw2⟩

end Go.Proofs.YtomijmikkbhgmaaGreat
