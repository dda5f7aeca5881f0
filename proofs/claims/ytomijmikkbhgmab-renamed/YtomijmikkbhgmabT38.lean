import Derived.Test.YtomijmikkbhgmabT37
import Derived.Test.YtomijmikkbhgmabT7
import Derived.Test.YtomijmikkbhgmabT34
namespace Go.Proofs.Ytomijmikkbhgmab
open Go.RowKit

set_option maxRecDepth 20000 in
set_option maxHeartbeats 2000000 in
theorem outcomesP_any (T : List (List Ins)) (fa : Bool) (c : List Atm) (al : Nat → Bool) (hal : Als T (evsT T 0) al) (vt vc : Value) (w : World) (h : TestAt w (.agg #[vt, .bool fa, vc]) T fa c vt vc) :
    Calls Try.prog 19 #[.agg #[vt, .bool fa, vc]] w fun e w' => ∃ (u : Value) (er : Int), e = .returned (.tuple #[u, .int .i64 er]) ∧ OOut T c al w' u er ∧ Below w.heap.size w w' := by
  have HT : Hid (TestAt w (.agg #[vt, .bool fa, vc]) T fa c vt vc) := h
  have HLS : Hid (((chk T c).1 == 0) = true → ∀ w', Below w.heap.size w w' → Calls Try.prog 32 #[vt] w' fun e w'' => ∃ u, e = .returned u ∧ Ev4Cap w'' u (evsT T 0) ∧ Below w'.heap.size w' w'') := fun hz w' hb => list_cap T vt w' (h.ht.keep hb) (fits_of hz).short.t4 (fits_of hz).lens
  have HOF : Hid (((chk T c).1 == 0) = true → ∀ (u : Value) (w' : World), Below w.heap.size w w' → Ev4Cap w' u (evsT T 0) → Calls Try.prog 33 #[vt, u] w' fun e w'' => ∃ v, e = .returned v ∧ OutAt w'' v (outK (stsL al T (evsT T 0) (sizeN (evsT T 0)))) ∧ Below w'.heap.size w' w'') := fun hz u w' hb hu => outcomesOf_any T c hz al hal vt u w' (h.ht.keep hb) hu
  have HJ : Hid (∀ w' u er, OOut T c al w' u er ↔ ((chk T c).1 ≠ 0 ∧ er = (chk T c).1 ∧ u = .slice none 0 0) ∨ ((chk T c).1 = 0 ∧ er = 0 ∧ OutAt w' u (outK (stsL al T (evsT T 0) (sizeN (evsT T 0)))))) := fun _ _ _ => Iff.rfl
  generalize OOut T c al = J at HJ ⊢
  generalize outK (stsL al T (evsT T 0) (sizeN (evsT T 0))) = KK at HJ HOF
  generalize evsT T 0 = E at HLS HOF
  generalize hq : chk T c = q at HLS HOF HJ
  have HQ : Hid (chk T c = q) := hq
  clear hq h
  go_enter Try.func19, Try.ntmps19
  go_wp2_with fail
  have hba := below_alloc w (.cells #[vt, .bool fa, vc] 25)
  refine (find_any T fa c _ vt vc _ (HT.out.keep hba)).mono ?_
  rw [HQ.out]
  rintro e w3 ⟨rfl, hb3⟩
  unfold fault2
  have hbw3 := below_more hba hb3
  have t0 := keep_cell hb3 (b := w.heap.size) (off := 0) (u := vt) (by simp)
  have s0 := World.block_lt_of_cell? _ _ t0
  simp only at s0
  clear hb3
  cases hz : q.1 == 0
  · have hz2 : (q.1 != 0) = true := by simp [bne, hz]
    have HM : Hid (∀ w', J w' (.slice none 0 0) q.1) := fun w' => (HJ.out w' _ q.1).2 (.inl ⟨by simpa using hz, rfl, rfl⟩)
    clear HJ
    go_wp2_with fail
    go_quiet (fail)
    go_wp2_with fail
    go_ret2
    exact ⟨_, _, rfl, HM.out _, below_drewN (hbw3.alloc hbw3.size _) _⟩
  · have hz2 : (q.1 != 0) = false := by simp [bne, hz]
    have hq0 : q.1 = 0 := by simpa using hz
    have HJ2 : Hid (∀ w' u, OutAt w' u KK → J w' u 0) := fun w' u h => (HJ.out w' u 0).2 (.inr ⟨hq0, rfl, h⟩)
    have HL1 := HLS.out hz
    have HO1 := HOF.out hz
    have HL2 : Hid (∀ w', Below w.heap.size w w' → Calls Try.prog 32 #[vt] w' fun e w'' => ∃ u, e = .returned u ∧ Ev4Cap w'' u E ∧ Below w'.heap.size w' w'') := HL1
    have HO2 : Hid (∀ (u : Value) (w' : World), Below w.heap.size w w' → Ev4Cap w' u E → Calls Try.prog 33 #[vt, u] w' fun e w'' => ∃ v, e = .returned v ∧ OutAt w'' v KK ∧ Below w'.heap.size w' w'') := HO1
    clear HJ hq0 HLS HOF HL1 HO1
    have hbw4 := hbw3.alloc hbw3.size (.cells #[.int .i64 q.1, .int .i64 q.2] 69)
    have hb34 := below_alloc w3 (.cells #[.int .i64 q.1, .int .i64 q.2] 69)
    go_wp2_with fail
    refine (HL2.out _ hbw4).mono ?_
    rintro e w5 ⟨u5, rfl, hu5, hb5⟩
    have HU5 : Hid (Ev4Cap w5 u5 E) := hu5
    have hbw5 := below_more hbw4 hb5
    replace t0 := keep_cell (below_more hb34 hb5) t0
    clear hu5 hb5 hb34 hbw4 hbw3
    go_wp2_with fail
    refine (HO2.out u5 w5 hbw5 HU5.out).mono ?_
    rintro e w6 ⟨v6, rfl, hv6, hb6⟩
    have HM : Hid (J w6 v6 0) := HJ2.out _ _ hv6
    have hbw6 := below_more hbw5 hb6
    clear hv6 hb6 t0
    go_wp2_with fail
    go_ret2
    exact ⟨_, _, rfl, HM.out, hbw6⟩

theorem OOut.same {T : List (List Ins)} {c : List Atm} {al : Nat → Bool} {w w' : World} {u u' : Value} {er er' : Int} (h : OOut T c al w u er) (k : OOut T c al w' u' er') : er = er' ∧ ∃ K : List (List Int × Nat), K.length ≤ 2000 ∧ (∀ p ∈ K, p.1.length ≤ 100) ∧ OutAt w u K ∧ OutAt w' u' K := by
  have n1 : ∀ w, OutAt w (.slice none 0 0) [] := fun w => ⟨none, 0, 0, 0, rfl, fun h => absurd rfl h, fun _ => ⟨rfl, rfl⟩, fun k x h => by simp at h⟩
  rcases h with ⟨h1, h2, rfl⟩ | ⟨h1, h2, h3⟩ <;> rcases k with ⟨k1, k2, rfl⟩ | ⟨k1, k2, k3⟩
  · exact ⟨h2.trans k2.symm, [], by simp, fun p hp => (by cases hp), n1 _, n1 _⟩
  · exact absurd k1 h1
  · exact absurd h1 k1
  · refine ⟨h2.trans k2.symm, _, ?_, ?_, h3, k3⟩
    · have hz : ((chk T c).1 == 0) = true := by simpa using h1
      have e1 := outK_len (stsL al T (evsT T 0) (sizeN (evsT T 0)))
      have e2 := List.length_filterMap_le id (optL al T (evsT T 0) (sizeN (evsT T 0)))
      have e3 := optL_len al T (evsT T 0) (sizeN (evsT T 0))
      have e4 := chk_many_no hz
      unfold stsL at e1 ⊢
      omega
    · have hz : ((chk T c).1 == 0) = true := by simpa using h1
      have hT := (fits_of hz).short.t4
      obtain ⟨_, s2, _⟩ := outK_spec (n := 3 * T.length + 3) (L := stsL al T (evsT T 0) (sizeN (evsT T 0))) (fun s hs => by
        unfold stsL at hs
        rw [casN_states] at hs
        obtain ⟨n, _, rfl⟩ := List.mem_map.1 hs
        exact stX_len _ _ _)
      intro p hp
      have := s2 p hp
      omega

end Go.Proofs.Ytomijmikkbhgmab

namespace Go.Proofs.Ytomijmikkbhgmab

/-- Those that some of them lead to. -/
def stepC (A : List (Int × Int)) (S : List Nat) : List Nat := S.filter fun b => S.any fun a => arwB A a b
def itC (A : List (Int × Int)) : Nat → List Nat → List Nat
  | 0, S => S
  | k + 1, S => itC A k (stepC A S)
def cycB (n : Nat) (A : List (Int × Int)) : Bool := !(itC A n (List.range n)).isEmpty

theorem itC_nil (A : List (Int × Int)) (k : Nat) : itC A k [] = [] := by
  induction k with
  | zero => rfl
  | succ k ih => exact ih

theorem itC_cyc {n : Nat} {A : List (Int × Int)} (k : Nat) (S : List Nat) (hS : ∀ a ∈ S, a < n) (hl : S.length ≤ k) (hne : itC A k S ≠ []) : Cyc n A := by
  induction k generalizing S with
  | zero =>
    have : S = [] := List.eq_nil_of_length_eq_zero (by omega)
    subst this
    exact absurd rfl hne
  | succ k ih =>
    by_cases h : stepC A S = S
    · have hSne : S ≠ [] := fun e => by subst e; exact hne (itC_nil A _)
      refine ⟨fun a => a ∈ S, ?_, fun b _ hb => ?_⟩
      · obtain ⟨b, hb⟩ := List.exists_mem_of_ne_nil S hSne
        exact ⟨b, hS b hb, hb⟩
      · have hb2 : b ∈ stepC A S := by rw [h]; exact hb
        unfold stepC at hb2
        have := (List.mem_filter.1 hb2).2
        obtain ⟨a, ha, hA⟩ := List.any_eq_true.1 this
        exact ⟨a, hS a ha, ha, arwB_iff.1 hA⟩
    · refine ih (stepC A S) (fun a ha => hS a (List.mem_filter.1 ha).1) ?_ hne
      have hle := List.length_filter_le (fun b => S.any fun a => arwB A a b) S
      have hlt : (stepC A S).length ≠ S.length := fun e => h (List.filter_eq_self.2 (List.length_filter_eq_length_iff.1 e))
      unfold stepC at hlt ⊢
      omega

theorem cyc_itC {n : Nat} {A : List (Int × Int)} {P : Nat → Prop} (hc : Core n A P) (k : Nat) (S : List Nat) (hS : ∀ b, b < n → P b → b ∈ S) : ∀ b, b < n → P b → b ∈ itC A k S := by
  induction k generalizing S with
  | zero => exact hS
  | succ k ih =>
    refine ih (stepC A S) (fun b hb hP => ?_)
    obtain ⟨a, h1, h2, h3⟩ := hc b hb hP
    exact List.mem_filter.2 ⟨hS b hb hP, List.any_eq_true.2 ⟨a, hS a h1 h2, arwB_iff.2 h3⟩⟩

theorem cycB_iff {n : Nat} {A : List (Int × Int)} : cycB n A = true ↔ Cyc n A := by
  unfold cycB
  rw [Bool.not_eq_true', List.isEmpty_eq_false_iff]
  constructor
  · exact fun h => itC_cyc n (List.range n) (fun a ha => by simpa using ha) (by simp) h
  · rintro ⟨P, ⟨b, hb, hP⟩, hc⟩
    exact List.ne_nil_of_mem (cyc_itC hc n (List.range n) (fun b hb _ => by simpa using hb) b hb hP)

def partsB (n : Nat) : List Mt → List (Int × Int) → Bool
  | [], A => !cycB n A
  | m :: ms, A => !cycB n A && (partsB n ms (A ++ [pick false m]) || partsB n ms (A ++ [pick true m]))
theorem partsB_iff {n : Nat} {ms : List Mt} {A : List (Int × Int)} : partsB n ms A = true ↔ Parts n ms A := by
  have h0 : ∀ A, (!cycB n A) = true ↔ ¬ Cyc n A := fun A => by rw [← cycB_iff (n := n) (A := A)]; simp
  induction ms generalizing A with
  | nil => exact h0 A
  | cons m ms ih =>
    rw [partsB, Parts, Bool.and_eq_true, Bool.or_eq_true, h0]
    exact and_congr Iff.rfl (or_congr ih ih)

/-- Is an execution allowed? -/
def alB (T : List (List Ins)) (E : List Evt) (x : Exe) : Bool :=
  !cycB E.length (cohA E x) && !tornB E x && !cycB E.length (kepA T E x) && partsB E.length (mtL (thoL 2 E 0) (thoL 3 E 0) (thoL 4 E 0)) (kepA T E x)

theorem alB_iff {T : List (List Ins)} {E : List Evt} {x : Exe} : alB T E x = true ↔ Alw T E x := by
  have h0 : ∀ A, (!cycB E.length A) = true ↔ ¬ Cyc E.length A := fun A => by rw [← cycB_iff (n := E.length) (A := A)]; simp
  unfold alB Alw JudIs
  simp only [Bool.and_eq_true, h0, partsB_iff]
  constructor
  · rintro ⟨⟨⟨h1, h2⟩, h3⟩, h4⟩
    exact .inr ⟨h1, .inr ⟨by simpa using h2, .inr ⟨h3, .inr ⟨fun h => h h4, trivial⟩⟩⟩⟩
  · rintro (⟨h, _⟩ | ⟨h1, ⟨h, _⟩ | ⟨h2, ⟨h, _⟩ | ⟨h3, ⟨h, _⟩ | ⟨h4, _⟩⟩⟩⟩)
    · cases h
    · cases h
    · cases h
    · cases h
    · exact ⟨⟨⟨h1, by simpa using h2⟩, h3⟩, Classical.byContradiction h4⟩

theorem als_alB (T : List (List Ins)) (E : List Evt) : Als T E (fun n => alB T E (exN E n)) := fun _ _ => alB_iff

end Go.Proofs.Ytomijmikkbhgmab
