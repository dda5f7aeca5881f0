import Derived.Test.YtomijmikkbhgmaaGreatT36
import Derived.Test.YtomijmikkbhgmaaGreatT10
import Derived.Test.YtomijmikkbhgmaaGreatT32
import Derived.Deep.QuietTactic
import Derived.BigQuiet
import Derived.Test.YtomijmikkbhgmaaGreatLu
import Derived.Test.YtomijmikkbhgmaaGreatT8
import Derived.Test.YtomijmikkbhgmaaGreatSb
import Derived.Test.YtomijmikkbhgmaaGreatLm
import Derived.Test.YtomijmikkbhgmaaGreatT35
namespace Go.Proofs.YtomijmikkbhgmaaGreat

theorem valN_out {E : List Evt} {S : Nat → Int} {d j : Nat} (h : E.length ≤ j) : valN E S d (j : Int) = 0 := by
  cases d with
  | zero => rfl
  | succ d => rw [valN, if_neg (by omega), Int.toNat_natCast, List.getElem?_eq_none h]

/-- Where each step goes down, more steps than that tell nothing new. -/
theorem valN_stable {E : List Evt} {S : Nat → Int} (rk : Nat → Nat) (h1 : ∀ (i : Nat) (y : Evt), E[i]? = some y → (y.kind == 0) = true → ∀ j : Nat, S i = (j : Int) → j < E.length → rk j < rk i)
    (h2 : ∀ (i : Nat) (y : Evt), E[i]? = some y → (y.kind == 0) = false → (y.ins.op == 1) = true → ∀ j : Nat, srcG y (E.take i) 0 (-1) = (j : Int) → j < E.length → rk j < rk i) (m : Nat) :
    ∀ (i : Nat), rk i ≤ m → ∀ d d', rk i < d → rk i < d' → valN E S d (i : Int) = valN E S d' (i : Int) := by
  induction m with
  | zero =>
    intro i hi d d' hd hd'
    obtain ⟨d, rfl⟩ : ∃ k, d = k + 1 := ⟨d - 1, by omega⟩
    obtain ⟨d', rfl⟩ : ∃ k, d' = k + 1 := ⟨d' - 1, by omega⟩
    cases hy : E[i]? with
    | none =>
      have : E.length ≤ i := by simpa using hy
      rw [valN_out this, valN_out this]
    | some y =>
      have stop : ∀ s : Int, (∀ j : Nat, s = (j : Int) → j < E.length → rk j < rk i) → valN E S d s = valN E S d' s := by
        intro s hs
        by_cases hn : s < 0
        · rw [valN_neg _ _ _ hn, valN_neg _ _ _ hn]
        · obtain ⟨j, rfl⟩ := Int.eq_ofNat_of_zero_le (by omega : 0 ≤ s)
          by_cases hj : j < E.length
          · have := hs j rfl hj
            omega
          · rw [valN_out (by omega), valN_out (by omega)]
      cases hk : y.kind == 0
      · cases ho : y.ins.op == 1
        · rw [valN_else hy hk ho, valN_else hy hk ho]
        · rw [valN_copy hy hk ho, valN_copy hy hk ho]
          exact stop _ (h2 i y hy hk ho)
      · rw [valN_read hy hk, valN_read hy hk]
        exact stop _ (h1 i y hy hk)
  | succ m ih =>
    intro i hi d d' hd hd'
    obtain ⟨d, rfl⟩ : ∃ k, d = k + 1 := ⟨d - 1, by omega⟩
    obtain ⟨d', rfl⟩ : ∃ k, d' = k + 1 := ⟨d' - 1, by omega⟩
    cases hy : E[i]? with
    | none =>
      have : E.length ≤ i := by simpa using hy
      rw [valN_out this, valN_out this]
    | some y =>
      have step : ∀ s : Int, (∀ j : Nat, s = (j : Int) → j < E.length → rk j < rk i) → valN E S d s = valN E S d' s := by
        intro s hs
        by_cases hn : s < 0
        · rw [valN_neg _ _ _ hn, valN_neg _ _ _ hn]
        · obtain ⟨j, rfl⟩ := Int.eq_ofNat_of_zero_le (by omega : 0 ≤ s)
          by_cases hj : j < E.length
          · have := hs j rfl hj
            exact ih j (by omega) d d' (by omega) (by omega)
          · rw [valN_out (by omega), valN_out (by omega)]
      cases hk : y.kind == 0
      · cases ho : y.ins.op == 1
        · rw [valN_else hy hk ho, valN_else hy hk ho]
        · rw [valN_copy hy hk ho, valN_copy hy hk ho]
          exact step _ (h2 i y hy hk ho)
      · rw [valN_read hy hk, valN_read hy hk]
        exact step _ (h1 i y hy hk)

theorem valN_congr {E : List Evt} {S S' : Nat → Int} (h : ∀ (i : Nat) (y : Evt), E[i]? = some y → (y.kind == 0) = true → S i = S' i) (d : Nat) (i : Int) : valN E S d i = valN E S' d i := by
  induction d generalizing i with
  | zero => rfl
  | succ d ih =>
    by_cases hn : i < 0
    · rw [valN_neg _ _ _ hn, valN_neg _ _ _ hn]
    · obtain ⟨j, rfl⟩ := Int.eq_ofNat_of_zero_le (by omega : 0 ≤ i)
      cases hy : E[j]? with
      | none =>
        have : E.length ≤ j := by simpa using hy
        rw [valN_out this, valN_out this]
      | some y =>
        cases hk : y.kind == 0
        · cases ho : y.ins.op == 1
          · rw [valN_else hy hk ho, valN_else hy hk ho]
          · rw [valN_copy hy hk ho, valN_copy hy hk ho, ih]
        · rw [valN_read hy hk, valN_read hy hk, h j y hy hk, ih]

theorem srcG_spec (y : Evt) (l : List Evt) (i : Nat) (a : Int) (k : Nat) (h : srcG y l i a = (k : Int)) : a = (k : Int) ∨ (i ≤ k ∧ ∃ z, l[k - i]? = some z ∧ z.kind = 0 ∧ z.thread = y.thread ∧ z.ins.reg = y.ins.reg) := by
  induction l generalizing i a with
  | nil => exact .inl h
  | cons z l ih =>
    rw [srcG] at h
    rcases ih (i + 1) _ h with h1 | ⟨h1, z', h2, h3⟩
    · cases hz : z.kind == 0 && z.thread == y.thread && z.ins.reg == y.ins.reg
      · rw [hz] at h1; exact .inl (by simpa using h1)
      · rw [hz] at h1
        have h1' : (i : Int) = (k : Int) := by simpa using h1
        have hik : i = k := by omega
        subst hik
        simp only [Bool.and_eq_true, beq_iff_eq] at hz
        exact .inr ⟨Nat.le_refl _, z, by simp, hz.1.1, hz.1.2, hz.2⟩
    · refine .inr ⟨by omega, z', ?_, h3⟩
      rw [show k - i = (k - (i + 1)) + 1 by omega]
      simpa using h2

/-- From which event each one reads: the program's way. -/
def srcS (E : List Evt) (x : Exe) : Nat → Int := fun j => (srcL E x.from').getD j 0
/-- The document's way. -/
def frS (E : List Evt) (x : Exe) : Nat → Int := fun r => frG ((rdsX E 0).zip x.from') (r : Int)

theorem src_same {E : List Evt} (hl : E.length ≤ 96) (hloc : ∀ y ∈ E, locB y.loc = true) {x : Exe} (hx : IsEx E x) (i : Nat) (y : Evt) (hy : E[i]? = some y) (hk : (y.kind == 0) = true) : srcS E x i = frS E x i := by
  have hr := hx.ranks hl hloc
  have hk' : y.kind = 0 := by simpa using hk
  have hm : ((i, y), srcS E x i) ∈ (rdsX E 0).zip x.from' := (hr.zip i y _).2 ⟨hy, hk', rfl⟩
  unfold frS
  rcases frG_mem ((rdsX E 0).zip x.from') (i : Int) with h | ⟨⟨⟨r, z⟩, f⟩, h1, h2, h3⟩
  · have : ∀ (l : List ((Nat × Evt) × Int)), ((i, y), srcS E x i) ∈ l → ∃ q ∈ l, frG l (i : Int) = q.2 ∧ (q.1.1 : Int) = (i : Int) := by
      intro l
      induction l with
      | nil => intro h; cases h
      | cons q l ih =>
        intro hq
        cases hqi : ((q.1.1 : Int) == (i : Int))
        · rw [frG_mis hqi]
          rcases List.mem_cons.1 hq with e | e
          · rw [← e] at hqi; simp at hqi
          · obtain ⟨q', h1, h2⟩ := ih e
            exact ⟨q', List.mem_cons_of_mem _ h1, h2⟩
        · exact ⟨q, List.mem_cons_self .., frG_hit hqi _, by simpa using hqi⟩
    obtain ⟨⟨⟨r, z⟩, f⟩, h1, h2, h3⟩ := this _ hm
    have hri : r = i := by have h3' : (r : Int) = (i : Int) := h3
                           omega
    subst hri
    have := (hr.zip r z f).1 h1
    rw [h2]
    exact this.2.2
  · have hri : r = i := by have h3' : (r : Int) = (i : Int) := h3
                           omega
    subst hri
    have := (hr.zip r z f).1 h1
    rw [h2]
    exact this.2.2

/-- What is held in the end, each value by so many steps. -/
def staD (D k : Nat) (E : List Evt) (S : Nat → Int) (x : Exe) : List Int := ((List.range k).flatMap fun i : Nat => (List.range 3).map fun r : Nat => valN E S D (srcG (evtOf (i : Int) (r : Int)) E 0 (-1))) ++ (List.range 3).map fun j => match (x.order.getD j []).getLast? with
  | none => 0
  | some w => valN E S D w

theorem staL_D (k : Nat) (E : List Evt) (S : Nat → Int) (x : Exe) : staL k E S x = staD (2 * E.length) k E S x := rfl

theorem val_same {T : List (List Ins)} {E : List Evt} (hE : E = evsT T 0) (hl : E.length ≤ 96) (hloc : ∀ y ∈ E, locB y.loc = true) {x : Exe} (hx : IsEx E x) (hc : ¬ Cyc E.length (kepA T E x)) (i : Int) :
    valN E (srcS E x) E.length i = valN E (frS E x) (2 * E.length) i := by
  rw [valN_congr (fun i y hy hk => (src_same hl hloc hx i y hy hk).symm) (2 * E.length) i]
  obtain ⟨_, _, j3, _⟩ := judge_same' (ms := []) hE hl hloc hx
  obtain ⟨rk, hr1, hr2⟩ := rank_of (fun h => hc (j3.1 h))
  by_cases hn : i < 0
  · rw [valN_neg _ _ _ hn, valN_neg _ _ _ hn]
  · obtain ⟨j, rfl⟩ := Int.eq_ofNat_of_zero_le (by omega : 0 ≤ i)
    by_cases hj : j < E.length
    · refine valN_stable rk (fun i y hy _ a ha hal => ?_) (fun i y hy hk ho a ha hal => ?_) _ j (Nat.le_refl _) _ _ (hr1 j hj) (by have := hr1 j hj; omega)
      · have hi : i < E.length := (List.getElem?_eq_some_iff.1 hy).1
        refine hr2 a i hal hi ?_
        unfold kepQ exQ
        exact List.mem_append_left _ (allS_mem.2 ⟨hi, .inl ha⟩)
      · have hi : i < E.length := (List.getElem?_eq_some_iff.1 hy).1
        refine hr2 a i hal hi ?_
        unfold kepQ
        rcases srcG_spec y _ 0 (-1) a ha with h | ⟨_, z, h2, h3, h4, h5⟩
        · omega
        · rw [Nat.sub_zero] at h2
          have hai : a < i := by
            have := (List.getElem?_eq_some_iff.1 h2).1
            rw [List.length_take] at this; omega
          rw [List.getElem?_take_of_lt hai] at h2
          refine List.mem_append_right _ (allU_mem.2 ⟨hi, hai, ?_⟩)
          rw [pairB_get h2 hy]
          unfold keepQ cpyB
          rw [h4, ho, ha]
          simp
    · rw [valN_out (by omega), valN_out (by omega)]

theorem sta_same {T : List (List Ins)} {E : List Evt} (hE : E = evsT T 0) (hl : E.length ≤ 96) (hloc : ∀ y ∈ E, locB y.loc = true) {x : Exe} (hx : IsEx E x) (hc : ¬ Cyc E.length (kepA T E x)) (k : Nat) :
    staD E.length k E (srcS E x) x = staL k E (frS E x) x := by
  rw [staL_D]
  unfold staD
  have h := val_same hE hl hloc hx hc
  congr 1
  · congr 1
    funext i
    congr 1
    funext r
    exact h _
  · congr 1
    funext j
    split
    · rfl
    · exact h _

/-- Values are small. -/
theorem valN_small {E : List Evt} (hv : ∀ y ∈ E, 0 ≤ y.ins.val ∧ y.ins.val ≤ 1000) (S : Nat → Int) (d : Nat) (i : Int) : 0 ≤ valN E S d i ∧ valN E S d i ≤ 1000 := by
  induction d generalizing i with
  | zero => exact ⟨Int.le_refl _, by show (0 : Int) ≤ 1000; omega⟩
  | succ d ih =>
    by_cases hn : i < 0
    · rw [valN_neg _ _ _ hn]; omega
    · obtain ⟨j, rfl⟩ := Int.eq_ofNat_of_zero_le (by omega : 0 ≤ i)
      cases hy : E[j]? with
      | none =>
        have : E.length ≤ j := by simpa using hy
        rw [valN_out this]; omega
      | some y =>
        cases hk : y.kind == 0
        · cases ho : y.ins.op == 1
          · rw [valN_else hy hk ho]; exact hv y (List.mem_of_getElem? hy)
          · rw [valN_copy hy hk ho]; exact ih _
        · rw [valN_read hy hk]; exact ih _

theorem staL_len (k : Nat) (E : List Evt) (S : Nat → Int) (x : Exe) : (staL k E S x).length = 3 * k + 3 := by
  unfold staL
  rw [List.length_append, List.length_map, List.length_range]
  have : ((List.range k).flatMap fun i => (List.range 3).map (regV E S i)).length = 3 * k := by
    induction k with
    | zero => rfl
    | succ k ih => rw [List.range_succ (n := k), List.flatMap_append, List.length_append, ih]; simp; omega
  omega

theorem staL_small {E : List Evt} (hv : ∀ y ∈ E, 0 ≤ y.ins.val ∧ y.ins.val ≤ 1000) (k : Nat) (S : Nat → Int) (x : Exe) : ∀ a ∈ staL k E S x, 0 ≤ a ∧ a ≤ 1000 := by
  intro a ha
  unfold staL at ha
  rcases List.mem_append.1 ha with ha | ha
  · obtain ⟨i, _, hi⟩ := List.mem_flatMap.1 ha
    obtain ⟨r, _, rfl⟩ := List.mem_map.1 hi
    exact valN_small hv S _ _
  · obtain ⟨j, _, rfl⟩ := List.mem_map.1 ha
    unfold locV
    split
    · omega
    · exact valN_small hv S _ _

end Go.Proofs.YtomijmikkbhgmaaGreat

namespace Go.Proofs.YtomijmikkbhgmaaGreat
open Go.RowKit

set_option maxHeartbeats 1000000 in
theorem check_any (T : List (List Ins)) (fa : Bool) (c : List Atm) (v vt vc : Value) (w : World) (h : TestAt w v T fa c vt vc) :
    Calls Tryz.prog 60 #[v] w fun e w' => e = .returned (.tuple #[.int .i64 (chk T c).1, .int .i64 (chk T c).2]) ∧ Below w.heap.size w w' := by
  have HT : Hid (TestAt w v T fa c vt vc) := h
  obtain ⟨hv, _, _⟩ := h
  subst hv
  generalize hq : chk T c = q
  have HQ : Hid (chk T c = q) := hq
  clear hq
  go_enter Tryz.func60, Tryz.ntmps60
  go_wp2_with (go_at_call 43; refine (find_any T fa c _ vt vc _ (HT.out.keep (below_alloc _ _))).mono ?_; rw [HQ.out]; rintro e w3 ⟨rfl, hb3⟩; unfold fault2)
  go_quiet (fail)
  go_wp2_with fail
  go_ret2
  exact ⟨rfl, below_drewN ((below_more (below_alloc _ _) hb3).alloc (by have := hb3.size; simp at this; omega) _) _⟩

end Go.Proofs.YtomijmikkbhgmaaGreat

namespace Go.Proofs.YtomijmikkbhgmaaGreat
open Go.RowKit

/-- The events, where Check says OK. -/
def evsR (T : List (List Ins)) (c : List Atm) : List Evt := if (chk T c).1 == 0 then evsT T 0 else []
/-- How many candidates, where Check says OK. -/
def sizR (T : List (List Ins)) (c : List Atm) : Nat := if (chk T c).1 == 0 then cap2 (sizeN (evsT T 0)) else 0

theorem chk_zero {T : List (List Ins)} {c : List Atm} (h : ((chk T c).1 == 0) = true) : sizeB T c = true := by
  cases hs : sizeB T c
  · rw [chk_size hs] at h; simp at h
  · rfl

theorem ev4_nil (w : World) : Ev4At w (.slice none 0 0) [] := ⟨none, 0, 0, 0, rfl, fun h => absurd rfl h, fun _ => ⟨rfl, rfl⟩, fun k x h => by simp at h⟩

set_option maxHeartbeats 1000000 in
theorem eventsP_any (T : List (List Ins)) (fa : Bool) (c : List Atm) (v vt vc : Value) (w : World) (h : TestAt w v T fa c vt vc) :
    Calls Tryz.prog 61 #[v] w fun e w' => ∃ u, e = .returned (.tuple #[u, .int .i64 (chk T c).1]) ∧ Ev4At w' u (evsR T c) ∧ Below w.heap.size w w' := by
  have HT : Hid (TestAt w v T fa c vt vc) := h
  obtain ⟨hv, _, _⟩ := h
  subst hv
  have HZ : Hid (((chk T c).1 == 0) = true → sizeB T c = true) := chk_zero
  have HE : Hid (evsR T c = if (chk T c).1 == 0 then evsT T 0 else []) := rfl
  generalize hq : chk T c = q at HZ HE
  have HQ : Hid (chk T c = q) := hq
  clear hq
  generalize evsR T c = E at HE
  go_enter Tryz.func61, Tryz.ntmps61
  go_wp2_with fail
  refine (find_any T fa c _ vt vc _ (HT.out.keep (below_alloc _ _))).mono ?_
  rw [HQ.out]
  rintro e w3 ⟨rfl, hb3⟩
  unfold fault2
  have hs3 : w.heap.size < w3.heap.size := by have := hb3.size; simp at this; omega
  have e0 := keep_cell hb3 (b := w.heap.size) (off := 0) (u := vt) (by simp)
  have hbw3 := below_more (below_alloc _ _) hb3
  clear hb3
  cases hz : q.1 == 0
  · have hz2 : (q.1 != 0) = true := by simp [bne, hz]
    have HE2 : Hid (E = []) := HE.out.trans (by rw [hz]; rfl)
    clear HE
    go_wp2_with fail
    go_quiet (fail)
    go_wp2_with fail
    go_ret2
    exact ⟨_, rfl, by rw [HE2.out]; exact ev4_nil _, below_drewN (hbw3.alloc hbw3.size _) _⟩
  · have hz2 : (q.1 != 0) = false := by simp [bne, hz]
    have HE2 : Hid (E = evsT T 0) := HE.out.trans (by rw [hz]; rfl)
    have hq0 : q.1 = 0 := by simpa using hz
    obtain ⟨h2, hL, _⟩ := sizeB_parts (HZ.out hz)
    have HL : Hid (lensB T = true) := hL
    have HQ0 : Hid (q.1 = 0) := hq0
    clear HE hL hq0
    go_wp2_with fail
    refine (list_any T vt _ (HT.out.ht.keep (hbw3.alloc hbw3.size _)) h2 HL.out).mono ?_
    rintro e w5 ⟨u, rfl, hu, hb5⟩
    go_wp2_with fail
    go_ret2
    exact ⟨u, by rw [HQ0.out]; rfl, by rw [HE2.out]; exact hu, below_more (hbw3.alloc hbw3.size _) hb5⟩

set_option maxHeartbeats 1000000 in
theorem sizeP_any (T : List (List Ins)) (fa : Bool) (c : List Atm) (v vt vc : Value) (w : World) (h : TestAt w v T fa c vt vc) :
    Calls Tryz.prog 65 #[v] w fun e w' => e = .returned (.tuple #[.int .i64 (sizR T c : Nat), .int .i64 (chk T c).1]) ∧ Below w.heap.size w w' := by
  have HT : Hid (TestAt w v T fa c vt vc) := h
  obtain ⟨hv, _, _⟩ := h
  subst hv
  have HZ : Hid (((chk T c).1 == 0) = true → sizeB T c = true) := chk_zero
  have HE : Hid (sizR T c = if (chk T c).1 == 0 then cap2 (sizeN (evsT T 0)) else 0) := rfl
  generalize hq : chk T c = q at HZ HE
  have HQ : Hid (chk T c = q) := hq
  clear hq
  generalize sizR T c = E at HE
  go_enter Tryz.func65, Tryz.ntmps65
  go_wp2_with fail
  refine (find_any T fa c _ vt vc _ (HT.out.keep (below_alloc _ _))).mono ?_
  rw [HQ.out]
  rintro e w3 ⟨rfl, hb3⟩
  unfold fault2
  have hs3 : w.heap.size < w3.heap.size := by have := hb3.size; simp at this; omega
  have e0 := keep_cell hb3 (b := w.heap.size) (off := 0) (u := vt) (by simp)
  have hbw3 := below_more (below_alloc _ _) hb3
  clear hb3
  cases hz : q.1 == 0
  · have hz2 : (q.1 != 0) = true := by simp [bne, hz]
    have HE2 : Hid (E = 0) := HE.out.trans (by rw [hz]; rfl)
    clear HE
    go_wp2_with fail
    go_quiet (fail)
    go_wp2_with fail
    go_ret2
    exact ⟨by rw [HE2.out]; rfl, below_drewN (hbw3.alloc hbw3.size _) _⟩
  · have hz2 : (q.1 != 0) = false := by simp [bne, hz]
    have HE2 : Hid (E = cap2 (sizeN (evsT T 0))) := HE.out.trans (by rw [hz]; rfl)
    have hq0 : q.1 = 0 := by simpa using hz
    obtain ⟨h2, hL, _⟩ := sizeB_parts (HZ.out hz)
    have HL : Hid (lensB T = true) := hL
    have HQ0 : Hid (q.1 = 0) := hq0
    have hEl : (evsT T 0).length ≤ 96 := by have := evsT_len T 0 HL.out; omega
    clear HE hL hq0
    go_wp2_with fail
    refine (list_any T vt _ (HT.out.ht.keep (hbw3.alloc hbw3.size _)) h2 HL.out).mono ?_
    rintro e w5 ⟨u, rfl, hu, hb5⟩
    have hbw5 := below_more (hbw3.alloc hbw3.size _) hb5
    clear hb5
    go_wp2_with fail
    refine (countP_any _ hEl _ _ hu).mono ?_
    rintro e w6 ⟨rfl, hb6⟩
    go_wp2_with fail
    go_ret2
    exact ⟨by rw [HQ0.out, HE2.out]; rfl, below_more hbw5 hb6⟩

set_option maxHeartbeats 1000000 in
theorem sizeR_any (T : List (List Ins)) (fa : Bool) (c : List Atm) (v vt vc : Value) (w : World) (h : TestAt w v T fa c vt vc) :
    Calls Tryz.prog 66 #[v] w fun e w' => e = .returned (.tuple #[.int .i64 (sizR T c : Nat), .int .i64 (chk T c).1]) ∧ Below w.heap.size w w' := by
  have HT : Hid (TestAt w v T fa c vt vc) := h
  obtain ⟨hv, _, _⟩ := h
  subst hv
  have HZ : Hid (((chk T c).1 == 0) = true → sizeB T c = true) := chk_zero
  have HE : Hid (sizR T c = if (chk T c).1 == 0 then cap2 (sizeN (evsT T 0)) else 0) := rfl
  generalize hq : chk T c = q at HZ HE
  have HQ : Hid (chk T c = q) := hq
  clear hq
  generalize sizR T c = E at HE
  go_enter Tryz.func66, Tryz.ntmps66
  go_wp2_with fail
  refine (checkR_any T fa c _ vt vc _ (HT.out.keep (below_alloc _ _))).mono ?_
  rw [HQ.out]
  rintro e w3 ⟨rfl, hb3⟩
  have e0 := keep_cell hb3 (b := w.heap.size) (off := 0) (u := vt) (by simp)
  have e1 := keep_cell hb3 (b := w.heap.size) (off := 1) (u := .bool fa) (by simp)
  have e2 := keep_cell hb3 (b := w.heap.size) (off := 2) (u := vc) (by simp)
  have hbw3 := below_more (below_alloc _ _) hb3
  clear hb3
  cases hz : q.1 == 0
  · have hz2 : (q.1 != 0) = true := by simp [bne, hz]
    have HE2 : Hid (E = 0) := HE.out.trans (by rw [hz]; rfl)
    clear HE
    go_wp2_with fail
    go_ret2
    exact ⟨by rw [HE2.out]; rfl, hbw3⟩
  · have hz2 : (q.1 != 0) = false := by simp [bne, hz]
    have HE2 : Hid (E = cap2 (sizeN (evsT T 0))) := HE.out.trans (by rw [hz]; rfl)
    have hq0 : q.1 = 0 := by simpa using hz
    obtain ⟨h2, hL, _⟩ := sizeB_parts (HZ.out hz)
    have HL : Hid (lensB T = true) := hL
    have HQ0 : Hid (q.1 = 0) := hq0
    have hEl : (evsT T 0).length ≤ 96 := by have := evsT_len T 0 HL.out; omega
    clear HE hL hq0
    go_wp2_with fail
    refine (events_any T fa c _ vt vc _ (HT.out.keep hbw3) h2 HL.out).mono ?_
    rintro e w5 ⟨u, rfl, hu, hb5⟩
    have hbw5 := below_more hbw3 hb5
    clear hb5
    go_wp2_with fail
    refine (size_any _ hEl _ _ hu).mono ?_
    rintro e w6 ⟨rfl, hb6⟩
    go_wp2_with fail
    go_ret2
    exact ⟨by rw [HQ0.out, HE2.out]; rfl, below_more hbw5 hb6⟩

end Go.Proofs.YtomijmikkbhgmaaGreat

namespace Go.Proofs.YtomijmikkbhgmaaGreat

theorem picks_zip (E R : List Evt) (i : Nat) (F : List Int) (h : picks F (rdo E R)) : F.length = (rdsX R i).length ∧ ∀ q ∈ (rdsX R i).zip F, q.2 = -1 ∨ q.2 ∈ wrs E 0 q.1.2.loc := by
  induction R generalizing i F with
  | nil =>
    cases F with
    | nil => exact ⟨rfl, fun q hq => by simp [rdsX] at hq⟩
    | cons a F => exact absurd h (by simp [rdo, picks])
  | cons y R ih =>
    unfold rdo at h
    cases hk : y.kind == 0
    · rw [hk] at h
      rw [rdsX_mis hk]
      exact ih (i + 1) F (by simpa using h)
    · rw [hk] at h
      rw [rdsX_hit hk]
      cases F with
      | nil => exact absurd h (by simp [picks])
      | cons a F =>
        have h' : a ∈ -1 :: wrs E 0 y.loc ∧ picks F (rdo E R) := by simpa [picks] using h
        obtain ⟨k1, k2⟩ := ih (i + 1) F h'.2
        refine ⟨by simp [k1], fun q hq => ?_⟩
        rw [List.zip_cons_cons] at hq
        rcases List.mem_cons.1 hq with rfl | hq
        · rcases List.mem_cons.1 h'.1 with e | e
          · exact .inl e
          · exact .inr e
        · exact k2 q hq

theorem Drawn.isEx {E : List Evt} {x : Exe} (h : Drawn E x) : IsEx E x := by
  obtain ⟨h1, h2⟩ := picks_zip E E 0 x.from' h.f
  obtain ⟨a, b, c, ho, _⟩ := h.o
  refine ⟨h1, h2, by rw [ho]; rfl, fun j l hl => ?_⟩
  have hp := h.row hl
  exact ⟨hp.nodup_iff.2 (wrs_nodup E _), fun a => hp.mem_iff⟩

theorem exN_isEx (E : List Evt) (n : Nat) : IsEx E (exN E n) := (exN_drawn E n).isEx

theorem mayB_val {x : Ins} (h : mayB x = true) : 0 ≤ x.val ∧ x.val ≤ 1000 := by
  have h0 : valB x.val = true → 0 ≤ x.val ∧ x.val ≤ 1000 := fun e => by
    unfold valB at e
    simp only [Bool.and_eq_true, decide_eq_true_eq] at e
    omega
  have h1 : (x.val == 0) = true → 0 ≤ x.val ∧ x.val ≤ 1000 := fun e => by
    have : x.val = 0 := by simpa using e
    omega
  unfold mayB at h
  repeat' split at h
  all_goals first
    | (simp only [Bool.and_eq_true] at h; exact h0 h.1.2)
    | (simp only [Bool.and_eq_true] at h; exact h1 h.1.2)
    | simp at h

theorem insF_may {T : List (List Ins)} {i : Nat} (h : insF T i = none) : ∀ l ∈ T, ∀ x ∈ l, mayB x = true := by
  induction T generalizing i with
  | nil => simp
  | cons l T ih =>
    cases hb : badAt l 0 with
    | some j => rw [insF_bad hb] at h; cases h
    | none =>
      rw [insF_ok hb] at h
      intro m hm x hx
      rcases List.mem_cons.1 hm with rfl | hm
      · exact badAt_none hb x hx
      · exact ih h m hm x hx

theorem chk_may {T : List (List Ins)} {c : List Atm} (h : ((chk T c).1 == 0) = true) : ∀ l ∈ T, ∀ x ∈ l, mayB x = true := by
  unfold chk at h
  cases hs : sizeB T c
  · rw [hs] at h; simp at h
  · rw [hs] at h
    cases hi : insF T 0 with
    | none => exact insF_may hi
    | some p => rw [hi] at h; simp at h

theorem chk_atms {T : List (List Ins)} {c : List Atm} (h : ((chk T c).1 == 0) = true) : AtmsOk T.length c := by
  have hs := chk_zero h
  cases hi : insF T 0 with
  | some p => rw [chk_ins hs hi] at h; simp at h
  | none =>
    cases hn : nstF T 0 with
    | some p => rw [chk_nst hs hi hn] at h; simp at h
    | none =>
      cases ha : atmF c 0 T.length with
      | some p => rw [chk_atm hs hi hn ha] at h; simp at h
      | none => exact atms_ok ha

theorem chk_vals {T : List (List Ins)} {c : List Atm} (h : ((chk T c).1 == 0) = true) : ∀ y ∈ evsT T 0, 0 ≤ y.ins.val ∧ y.ins.val ≤ 1000 := by
  intro y hy
  obtain ⟨i, p, l, _, _, _, hl, hp, _⟩ := evsT_mem hy
  exact mayB_val (chk_may h l (List.mem_of_getElem? hl) y.ins (List.mem_of_getElem? hp))

end Go.Proofs.YtomijmikkbhgmaaGreat

namespace Go.Proofs.YtomijmikkbhgmaaGreat
open Go.RowKit

theorem IsEx.evI {E : List Evt} {x : Exe} (h : IsEx E x) : (∀ f ∈ x.from', EvI E.length f) ∧ ∀ l ∈ x.order, ∀ a ∈ l, EvI E.length a := by
  have hw : ∀ {a loc : Int}, a ∈ wrs E 0 loc → EvI E.length a := fun ha => by
    obtain ⟨i, y, h1, h2, _⟩ := wrs_iff.1 ha
    exact .inr ⟨i, h2, (List.getElem?_eq_some_iff.1 h1).1⟩
  constructor
  · intro f hf
    obtain ⟨j, hj⟩ := List.mem_iff_getElem?.1 hf
    have hjl : j < (rdsX E 0).length := by rw [← h.f]; exact (List.getElem?_eq_some_iff.1 hj).1
    obtain ⟨q, hq⟩ := get_of_lt hjl
    have hz : ((rdsX E 0).zip x.from')[j]? = some (q, f) := by rw [List.getElem?_zip_eq_some]; exact ⟨hq, hj⟩
    rcases h.fw (q, f) (List.mem_of_getElem? hz) with e | e
    · exact .inl e
    · exact hw e
  · intro l hl a ha
    obtain ⟨j, hj⟩ := List.mem_iff_getElem?.1 hl
    exact hw (((h.od j l hj).2 a).1 ha)

/-- What State tells, where Judge tells r and jr. -/
def SOut (T : List (List Ins)) (x : Exe) (B : Nat) (w : World) (r jr : Int) (u : Value) (er : Int) : Prop :=
  (jr ≠ 0 ∧ er = jr ∧ u = .slice none 0 0) ∨ (jr = 0 ∧ r ≠ 0 ∧ er = 8 ∧ u = .slice none 0 0) ∨
  (jr = 0 ∧ r = 0 ∧ er = 0 ∧ IntNew B w u (staL T.length (evsT T 0) (fun r => frG ((rdsX (evsT T 0) 0).zip x.from') (r : Int)) x))

theorem IntNew.less {B B' : Nat} {w : World} {v : Value} {l : List Int} (h : IntNew B w v l) (hb : B' ≤ B) : IntNew B' w v l := by
  obtain ⟨ao, b, off, cap, h, h1, h2⟩ := h
  exact ⟨ao, b, off, cap, h, Nat.le_trans hb h1, h2⟩

set_option maxRecDepth 20000 in
set_option maxHeartbeats 1000000 in
theorem stateR_of (T : List (List Ins)) (fa : Bool) (c : List Atm) (vt vc : Value) (x : Exe) (vf vo : Value) (w : World) (h : TestAt w (.agg #[vt, .bool fa, vc]) T fa c vt vc) (hx : ExeAt w vf vo x) (J : Int → Int → Prop)
    (hj : ∀ w', Below w.heap.size w w' → Calls Tryz.prog 31 #[.agg #[vt, .bool fa, vc], .agg #[vf, vo]] w' fun e w'' => ∃ r er : Int, e = .returned (.tuple #[.int .i64 r, .int .i64 er]) ∧ J r er ∧ Below w'.heap.size w' w'')
    (hj0 : ∀ r, J r 0 → T.length ≤ 4 ∧ lensB T = true ∧ (evsT T 0).length ≤ 96 ∧ IsEx (evsT T 0) x) :
    Calls Tryz.prog 19 #[.agg #[vt, .bool fa, vc], .agg #[vf, vo]] w fun e w' => ∃ (r jr : Int) (u : Value) (er : Int), e = .returned (.tuple #[u, .int .i64 er]) ∧ J r jr ∧ SOut T x w.heap.size w' r jr u er ∧ Below w.heap.size w w' := by
  have HT : Hid (TestAt w (.agg #[vt, .bool fa, vc]) T fa c vt vc ∧ ExeAt w vf vo x) := ⟨h, hx⟩
  have HJ : Hid (∀ w', Below w.heap.size w w' → Calls Tryz.prog 31 #[.agg #[vt, .bool fa, vc], .agg #[vf, vo]] w' fun e w'' => ∃ r er : Int, e = .returned (.tuple #[.int .i64 r, .int .i64 er]) ∧ J r er ∧ Below w'.heap.size w' w'') := hj
  have HJ0 : Hid (∀ r, J r 0 → T.length ≤ 4 ∧ lensB T = true ∧ (evsT T 0).length ≤ 96 ∧ IsEx (evsT T 0) x) := hj0
  clear h hx hj hj0
  go_enter Tryz.func19, Tryz.ntmps19
  go_wp2_with fail
  have hba := below_two w (.cells #[vt, .bool fa, vc] 25) (.cells #[vf, vo] 29)
  refine (HJ.out _ hba).mono ?_
  rintro e w3 ⟨r, jr, rfl, hjr, hb3⟩
  have hbw3 := below_more hba hb3
  have HK : Hid (∀ w', Below w3.heap.size w3 w' → w'.cell? ⟨w.heap.size, 0, none⟩ = some vt ∧ w'.cell? ⟨w.heap.size, 1, none⟩ = some (.bool fa) ∧ w'.cell? ⟨w.heap.size, 2, none⟩ = some vc ∧ w'.cell? ⟨w.heap.size + 1, 0, none⟩ = some vf ∧ w'.cell? ⟨w.heap.size + 1, 1, none⟩ = some vo) := fun w' hb => by
    have t0 := keep_cell hb3 (b := w.heap.size) (off := 0) (u := vt) (by simp)
    have t1 := keep_cell hb3 (b := w.heap.size) (off := 1) (u := .bool fa) (by simp)
    have t2 := keep_cell hb3 (b := w.heap.size) (off := 2) (u := vc) (by simp)
    have x0 := keep_cell hb3 (b := w.heap.size + 1) (off := 0) (u := vf) (by simp)
    have x1 := keep_cell hb3 (b := w.heap.size + 1) (off := 1) (u := vo) (by simp)
    exact ⟨keep_cell hb t0, keep_cell hb t1, keep_cell hb t2, keep_cell hb x0, keep_cell hb x1⟩
  have HJR : Hid (J r jr) := hjr
  clear hjr hb3 HJ
  cases hz : jr == 0
  · have hz2 : (jr != 0) = true := by simp [bne, hz]
    have hz3 : jr ≠ 0 := by simpa using hz
    go_wp2_with fail
    go_ret2
    exact ⟨r, jr, _, _, rfl, HJR.out, .inl ⟨hz3, rfl, rfl⟩, hbw3⟩
  · have hz2 : (jr != 0) = false := by simp [bne, hz]
    have hz3 : jr = 0 := by simpa using hz
    have HZ3 : Hid (jr = 0) := hz3
    clear hz3
    cases hr : r == 0
    · have hr2 : (r != 0) = true := by simp [bne, hr]
      have hr3 : r ≠ 0 := by simpa using hr
      go_wp2_with fail
      go_ret2
      exact ⟨r, jr, _, _, rfl, HJR.out, .inr (.inl ⟨HZ3.out, hr3, rfl, rfl⟩), hbw3⟩
    · have hr2 : (r != 0) = false := by simp [bne, hr]
      have HR3 : Hid (r = 0) := by have : r = 0 := by simpa using hr
                                   exact this
      have HEV : Hid (∀ w', Below w3.heap.size w3 w' → Calls Tryz.prog 42 #[.agg #[vt, .bool fa, vc]] w' fun e w'' => ∃ u, e = .returned u ∧ Ev9At w'' u (evsT T 0) ∧ Below w'.heap.size w' w'') := fun w' hb => by
        obtain ⟨h1, h2, h3, h4⟩ := HJ0.out r (by have := HJR.out; rwa [HZ3.out] at this)
        exact events_any T fa c _ vt vc w' (HT.out.1.keep (below_more hbw3 hb)) h1 h2
      have HST : Hid (∀ (u : Value) (w' : World), Below w3.heap.size w3 w' → Ev9At w' u (evsT T 0) → Calls Tryz.prog 41 #[.agg #[vt, .bool fa, vc], u, .agg #[vf, vo]] w' fun e w'' => ∃ v, e = .returned v ∧ IntNew w'.heap.size w'' v (staL T.length (evsT T 0) (fun r => frG ((rdsX (evsT T 0) 0).zip x.from') (r : Int)) x) ∧ Below w'.heap.size w' w'') := fun u w' hb hu => by
        obtain ⟨h1, h2, h3, h4⟩ := HJ0.out r (by have := HJR.out; rwa [HZ3.out] at this)
        refine state_any T h1 fa c vt vc (evsT T 0) h3 x h4.f h4.evI.1 h4.o3 (fun l hl => ⟨?_, h4.evI.2 l hl⟩) u vf vo w' (HT.out.1.keep (below_more hbw3 hb)) hu (HT.out.2.keep (below_more hbw3 hb))
        obtain ⟨j, hj⟩ := List.mem_iff_getElem?.1 hl
        exact h4.len h3 hj
      obtain ⟨t0, t1, t2, x0, x1⟩ := HK.out w3 (Below.refl _ _)
      have HS3 : Hid (w.heap.size ≤ w3.heap.size) := hbw3.size
      go_upto_region 6 with fail
      go_region_with (first | (go_at_call 42; refine (HEV.out _ (Below.refl _ _).drew).mono ?_; rintro e w5 ⟨u5, rfl, hu5, hb5⟩; have hbw5 := (Below.refl _ w3).drew.trans hb5; obtain ⟨f0, f1, f2, g0, g1⟩ := HK.out w5 hbw5) | (go_at_call 41; refine (HST.out _ _ hbw5 hu5).mono ?_; rintro e w6 ⟨u6, rfl, hu6, hb6⟩))
      all_goals
        go_wp2_with fail
        go_ret2
        exact ⟨r, jr, _, _, rfl, HJR.out, .inr (.inr ⟨HZ3.out, HR3.out, rfl, hu6.less (Nat.le_trans HS3.out hbw5.size)⟩), below_more (below_more hbw3 hbw5) hb6⟩

end Go.Proofs.YtomijmikkbhgmaaGreat
