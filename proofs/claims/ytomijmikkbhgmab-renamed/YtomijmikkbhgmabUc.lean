import Derived.Test.YtomijmikkbhgmabT48
import Derived.Test.YtomijmikkbhgmabT49
namespace Go.Proofs.Ytomijmikkbhgmab
open Go.RowKit

def insA (x : Ins) : Value := .agg #[.int .i64 x.op, .int .i64 x.loc, .int .i64 x.reg, .int .i64 x.val, .int .i64 x.mode]

set_option maxRecDepth 20000 in
theorem store_any (loc val mode : Int) (w : World) : Calls Try.prog 59 #[.int .i64 loc, .int .i64 val, .int .i64 mode] w fun e w' => e = .returned (.agg #[.int .i64 0, .int .i64 loc, .int .i64 0, .int .i64 val, .int .i64 mode]) ∧ Below w.heap.size w w' := by
  go_enter Try.func59, Try.ntmps59
  go_wp2_with fail
  refine bodyPost_ret (v := .agg #[.int .i64 0, .int .i64 loc, .int .i64 0, .int .i64 val, .int .i64 mode]) (by simp [results, Try.results59, go_sem]) rfl ⟨rfl, ?_⟩
  repeat (refine Below.setCell ?_ (by first | (simp; done) | (simp; omega) | omega) _)
  exact below_alloc _ _
set_option maxRecDepth 20000 in
theorem load_any (reg loc mode : Int) (w : World) : Calls Try.prog 60 #[.int .i64 reg, .int .i64 loc, .int .i64 mode] w fun e w' => e = .returned (.agg #[.int .i64 2, .int .i64 loc, .int .i64 reg, .int .i64 0, .int .i64 mode]) ∧ Below w.heap.size w w' := by
  go_enter Try.func60, Try.ntmps60
  go_wp2_with fail
  refine bodyPost_ret (v := .agg #[.int .i64 2, .int .i64 loc, .int .i64 reg, .int .i64 0, .int .i64 mode]) (by simp [results, Try.results60, go_sem]) rfl ⟨rfl, ?_⟩
  repeat (refine Below.setCell ?_ (by first | (simp; done) | (simp; omega) | omega) _)
  exact below_alloc _ _
set_option maxRecDepth 20000 in
theorem fence_any (mode : Int) (w : World) : Calls Try.prog 34 #[.int .i64 mode] w fun e w' => e = .returned (.agg #[.int .i64 4, .int .i64 0, .int .i64 0, .int .i64 0, .int .i64 mode]) ∧ Below w.heap.size w w' := by
  go_enter Try.func34, Try.ntmps34
  go_wp2_with fail
  refine bodyPost_ret (v := .agg #[.int .i64 4, .int .i64 0, .int .i64 0, .int .i64 0, .int .i64 mode]) (by simp [results, Try.results34, go_sem]) rfl ⟨rfl, ?_⟩
  repeat (refine Below.setCell ?_ (by first | (simp; done) | (simp; omega) | omega) _)
  exact below_alloc _ _

/-- What a call that makes a known test tells. -/
def KnO (k : Knw) (w : World) (e : Ending) (w' : World) : Prop := ∃ vt vc, e = .returned (.agg #[vt, .bool false, vc, .int .i64 k.good, .int .i64 k.bad]) ∧ TestAt w' (.agg #[vt, .bool false, vc]) k.T false k.c vt vc ∧ Below w.heap.size w w'

/-- The result's own cells. -/
structure KnB (w : World) (R : Nat) : Prop where
  c0 : w.cell? ⟨R, 0, none⟩ = some (.slice none 0 0)
  c1 : w.cell? ⟨R, 1, none⟩ = some (.bool false)
  c2 : w.cell? ⟨R, 2, none⟩ = some (.slice none 0 0)
  c3 : w.cell? ⟨R, 3, none⟩ = some (.int .i64 0)
  c4 : w.cell? ⟨R, 4, none⟩ = some (.int .i64 0)
  f0 : w.frozen? ⟨R, 0, none⟩ = false
  f1 : w.frozen? ⟨R, 1, none⟩ = false
  f2 : w.frozen? ⟨R, 2, none⟩ = false
  f3 : w.frozen? ⟨R, 3, none⟩ = false
  f4 : w.frozen? ⟨R, 4, none⟩ = false
theorem KnB.lt {w : World} {R : Nat} (k : KnB w R) : R < w.heap.size := World.block_lt_of_cell? w _ k.c0
theorem KnB.keep {w w' : World} {R : Nat} (k : KnB w R) (hb : Below w.heap.size w w') : KnB w' R :=
  ⟨keep_cell hb k.c0, keep_cell hb k.c1, keep_cell hb k.c2, keep_cell hb k.c3, keep_cell hb k.c4, (hb.frozen (p := ⟨R, 0, none⟩) k.lt).trans k.f0, (hb.frozen (p := ⟨R, 1, none⟩) k.lt).trans k.f1, (hb.frozen (p := ⟨R, 2, none⟩) k.lt).trans k.f2, (hb.frozen (p := ⟨R, 3, none⟩) k.lt).trans k.f3, (hb.frozen (p := ⟨R, 4, none⟩) k.lt).trans k.f4⟩
theorem knB_new (w : World) : KnB (w.alloc (.cells #[.slice none 0 0, .bool false, .slice none 0 0, .int .i64 0, .int .i64 0] 56)) w.heap.size := by
  refine ⟨?_, ?_, ?_, ?_, ?_, ?_, ?_, ?_, ?_, ?_⟩ <;> simp

theorem get2 {α β : Type} {P : α → β → Prop} {a b : α} {x y : β} (h1 : P a x) (h2 : P b y) : ∀ (i : Nat) (l : β), [x, y][i]? = some l → ∃ u, [a, b][i]? = some u ∧ P u l := by
  intro i l hl
  match i, hl with
  | 0, hl => simp at hl; subst hl; exact ⟨a, rfl, h1⟩
  | 1, hl => simp at hl; subst hl; exact ⟨b, rfl, h2⟩
  | i + 2, hl => simp at hl

set_option maxRecDepth 20000 in
set_option maxHeartbeats 2000000 in
theorem message_any (rel acq : Int) (g : Nat) (w : World) : Calls Try.prog 36 #[.int .i64 rel, .int .i64 acq, .int .i64 g] w (KnO (mesK rel acq g) w) := by
  have HKO : Hid (∀ e w', (∃ vt vc, e = .returned (.agg #[vt, .bool false, vc, .int .i64 g, .int .i64 3]) ∧ TestAt w' (.agg #[vt, .bool false, vc]) (mesK rel acq g).T false (mesK rel acq g).c vt vc ∧ Below w.heap.size w w') → KnO (mesK rel acq g) w e w') := fun _ _ h => h
  go_enter Try.func36, Try.ntmps36
  go_wp2_with fail
  have hK1 := knB_new w
  have hba := below_alloc w (.cells #[.slice none 0 0, .bool false, .slice none 0 0, .int .i64 0, .int .i64 0] 56)
  have hs1 : w.heap.size + 1 ≤ (w.alloc (.cells #[.slice none 0 0, .bool false, .slice none 0 0, .int .i64 0, .int .i64 0] 56)).heap.size := by simp
  generalize w.alloc (.cells #[.slice none 0 0, .bool false, .slice none 0 0, .int .i64 0, .int .i64 0] 56) = w1 at hK1 hba hs1 ⊢
  have hb1 : Below w1.heap.size w1 w1 := Below.refl _ _
  refine (store_any _ _ _ _).mono ?_
  rintro e w2 ⟨rfl, hc2⟩
  replace hb1 := below_more hb1 hc2
  clear hc2
  go_wp2_with fail
  refine (store_any _ _ _ _).mono ?_
  rintro e w3 ⟨rfl, hc3⟩
  replace hb1 := below_more hb1 hc3
  clear hc3
  have hsz0 := hb1.size
  have hR0 : InsS (w.heap.size + 1) (w3.alloc (.cells #[.int .i64 0, .int .i64 0, .int .i64 0, .int .i64 1, .int .i64 0, .int .i64 0, .int .i64 1, .int .i64 0, .int .i64 1, .int .i64 rel] 37)) (.slice (some ⟨w3.heap.size, 0, none⟩) 2 2) [stoI 0 1 0, stoI 1 1 rel] := InsS.lit (l := [stoI 0 1 0, stoI 1 1 rel]) (by omega) (by simp)
  have hbl := below_alloc w3 (.cells #[.int .i64 0, .int .i64 0, .int .i64 0, .int .i64 1, .int .i64 0, .int .i64 0, .int .i64 1, .int .i64 0, .int .i64 1, .int .i64 rel] 37)
  replace hb1 := below_more hb1 hbl
  go_upto_region 2 with fail
  generalize w3.alloc (.cells #[.int .i64 0, .int .i64 0, .int .i64 0, .int .i64 1, .int .i64 0, .int .i64 0, .int .i64 1, .int .i64 0, .int .i64 1, .int .i64 rel] 37) = w4 at hR0 hbl hb1  ⊢
  generalize w3.heap.size = B0 at hR0 ⊢
  clear hbl hsz0
  go_wp2_with fail
  refine (load_any _ _ _ _).mono ?_
  rintro e w5 ⟨rfl, hc5⟩
  replace hR0 := hR0.keep hc5
  replace hb1 := below_more hb1 hc5
  clear hc5
  go_wp2_with fail
  refine (load_any _ _ _ _).mono ?_
  rintro e w6 ⟨rfl, hc6⟩
  replace hR0 := hR0.keep hc6
  replace hb1 := below_more hb1 hc6
  clear hc6
  have hsz1 := hb1.size
  have hR1 : InsS (w.heap.size + 1) (w6.alloc (.cells #[.int .i64 2, .int .i64 1, .int .i64 0, .int .i64 0, .int .i64 acq, .int .i64 2, .int .i64 0, .int .i64 1, .int .i64 0, .int .i64 0] 37)) (.slice (some ⟨w6.heap.size, 0, none⟩) 2 2) [lodI 0 1 acq, lodI 1 0 0] := InsS.lit (l := [lodI 0 1 acq, lodI 1 0 0]) (by omega) (by simp)
  have hbl := below_alloc w6 (.cells #[.int .i64 2, .int .i64 1, .int .i64 0, .int .i64 0, .int .i64 acq, .int .i64 2, .int .i64 0, .int .i64 1, .int .i64 0, .int .i64 0] 37)
  replace hR0 := hR0.keep hbl
  replace hb1 := below_more hb1 hbl
  go_upto_region 3 with fail
  generalize w6.alloc (.cells #[.int .i64 2, .int .i64 1, .int .i64 0, .int .i64 0, .int .i64 acq, .int .i64 2, .int .i64 0, .int .i64 1, .int .i64 0, .int .i64 0] 37) = w7 at hR1 hbl hb1 hR0 ⊢
  generalize w6.heap.size = B1 at hR1 ⊢
  clear hbl hsz1
  have hs6 := hb1.size
  have hT : ThrS (w.heap.size + 1) (w7.alloc (.cells #[.slice (some ⟨B0, 0, none⟩) 2 2, .slice (some ⟨B1, 0, none⟩) 2 2] 34)) (.slice (some ⟨w7.heap.size, 0, none⟩) 2 2) (mesK rel acq g).T := ThrS.lit (us := [.slice (some ⟨B0, 0, none⟩) 2 2, .slice (some ⟨B1, 0, none⟩) 2 2]) (Ls := [[stoI 0 1 0, stoI 1 1 rel], [lodI 0 1 acq, lodI 1 0 0]]) (by omega) rfl (by simp) (get2 hR0 hR1)
  have hC : AtmS (w.heap.size + 1) ((w7.alloc (.cells #[.slice (some ⟨B0, 0, none⟩) 2 2, .slice (some ⟨B1, 0, none⟩) 2 2] 34)).alloc (.cells #[.int .i64 1, .int .i64 0, .int .i64 1, .int .i64 1, .int .i64 1, .int .i64 0] 101)) (.slice (some ⟨w7.heap.size + 1, 0, none⟩) 2 2) (mesK rel acq g).c := by
    have := AtmS.lit (B := w.heap.size + 1) (w := w7.alloc (.cells #[.slice (some ⟨B0, 0, none⟩) 2 2, .slice (some ⟨B1, 0, none⟩) 2 2] 34)) (c := [⟨1, 0, 1⟩, ⟨1, 1, 0⟩]) (t := 101) (by simp; omega) (by simp)
    rw [World.size_alloc] at this
    exact this
  have hb8 := below_two w7 (.cells #[.slice (some ⟨B0, 0, none⟩) 2 2, .slice (some ⟨B1, 0, none⟩) 2 2] 34) (.cells #[.int .i64 1, .int .i64 0, .int .i64 1, .int .i64 1, .int .i64 1, .int .i64 0] 101)
  have hT8 := hT.keep (below_alloc (w7.alloc (.cells #[.slice (some ⟨B0, 0, none⟩) 2 2, .slice (some ⟨B1, 0, none⟩) 2 2] 34)) (.cells #[.int .i64 1, .int .i64 0, .int .i64 1, .int .i64 1, .int .i64 1, .int .i64 0] 101))
  go_upto_region 4 with fail
  generalize hw8 : (w7.alloc (.cells #[.slice (some ⟨B0, 0, none⟩) 2 2, .slice (some ⟨B1, 0, none⟩) 2 2] 34)).alloc (.cells #[.int .i64 1, .int .i64 0, .int .i64 1, .int .i64 1, .int .i64 1, .int .i64 0] 101) = v8 at hC hb8 hT8 ⊢
  have hz8 : v8.heap.size = w7.heap.size + 1 + 1 := by rw [← hw8]; simp
  rw [← hz8]
  generalize w7.heap.size = B6 at hT8 hC ⊢
  have hb18 := below_more hb1 hb8
  have hbx := below_alloc v8 (.cells #[.slice (some ⟨B6, 0, none⟩) 2 2, .bool false, .slice (some ⟨B6 + 1, 0, none⟩) 2 2] 25)
  have x0 : (v8.alloc (.cells #[.slice (some ⟨B6, 0, none⟩) 2 2, .bool false, .slice (some ⟨B6 + 1, 0, none⟩) 2 2] 25)).cell? ⟨v8.heap.size, 0, none⟩ = some (.slice (some ⟨B6, 0, none⟩) 2 2) := by simp
  have x1 : (v8.alloc (.cells #[.slice (some ⟨B6, 0, none⟩) 2 2, .bool false, .slice (some ⟨B6 + 1, 0, none⟩) 2 2] 25)).cell? ⟨v8.heap.size, 1, none⟩ = some (.bool false) := by simp
  have x2 : (v8.alloc (.cells #[.slice (some ⟨B6, 0, none⟩) 2 2, .bool false, .slice (some ⟨B6 + 1, 0, none⟩) 2 2] 25)).cell? ⟨v8.heap.size, 2, none⟩ = some (.slice (some ⟨B6 + 1, 0, none⟩) 2 2) := by simp
  have hT9 := hT8.keep hbx
  have hC9 := hC.keep hbx
  have hb19 := below_more hb18 hbx
  generalize v8.alloc (.cells #[.slice (some ⟨B6, 0, none⟩) 2 2, .bool false, .slice (some ⟨B6 + 1, 0, none⟩) 2 2] 25) = v9 at hbx x0 x1 x2 hT9 hC9 hb19 ⊢
  generalize v8.heap.size = B8 at x0 x1 x2 ⊢
  have HTC : Hid (ThrS (w.heap.size + 1) v9 (.slice (some ⟨B6, 0, none⟩) 2 2) (mesK rel acq g).T ∧ AtmS (w.heap.size + 1) v9 (.slice (some ⟨B6 + 1, 0, none⟩) 2 2) (mesK rel acq g).c) := ⟨hT9, hC9⟩
  obtain ⟨c0, c1, c2, c3, c4, f0, f1, f2, f3, f4⟩ := hK1.keep hb19
  have hbw9 := below_more hba hb19
  clear hT8 hC hb8 hT hR0 hR1 hb1 hw8 hz8 hb18 hbx hT9 hC9 hb19 hs6 hK1
  go_wp2_with fail
  refine bodyPost_ret (v := .agg #[.slice (some ⟨B6, 0, none⟩) 2 2, .bool false, .slice (some ⟨B6 + 1, 0, none⟩) 2 2, .int .i64 g, .int .i64 3]) (by simp [results, Try.results36, go_sem, *]) rfl (HKO.out _ _ ⟨_, _, rfl, test_mk (HTC.out.1 _ ?_) (HTC.out.2 _ ?_), ?_⟩)
  · repeat (refine Same.set ?_ (by omega) _)
    exact Same.refl _ _
  · repeat (refine Same.set ?_ (by omega) _)
    exact Same.refl _ _
  · repeat (refine Below.setCell ?_ (by first | (simp; done) | (simp; omega) | omega) _)
    exact hbw9

set_option maxRecDepth 20000 in
set_option maxHeartbeats 2000000 in
theorem early_any (mode : Int) (g : Nat) (w : World) : Calls Try.prog 37 #[.int .i64 mode, .int .i64 g] w (KnO (earK mode g) w) := by
  have HKO : Hid (∀ e w', (∃ vt vc, e = .returned (.agg #[vt, .bool false, vc, .int .i64 g, .int .i64 3]) ∧ TestAt w' (.agg #[vt, .bool false, vc]) (earK mode g).T false (earK mode g).c vt vc ∧ Below w.heap.size w w') → KnO (earK mode g) w e w') := fun _ _ h => h
  go_enter Try.func37, Try.ntmps37
  go_wp2_with fail
  have hK1 := knB_new w
  have hba := below_alloc w (.cells #[.slice none 0 0, .bool false, .slice none 0 0, .int .i64 0, .int .i64 0] 56)
  have hs1 : w.heap.size + 1 ≤ (w.alloc (.cells #[.slice none 0 0, .bool false, .slice none 0 0, .int .i64 0, .int .i64 0] 56)).heap.size := by simp
  generalize w.alloc (.cells #[.slice none 0 0, .bool false, .slice none 0 0, .int .i64 0, .int .i64 0] 56) = w1 at hK1 hba hs1 ⊢
  have hb1 : Below w1.heap.size w1 w1 := Below.refl _ _
  refine (load_any _ _ _ _).mono ?_
  rintro e w2 ⟨rfl, hc2⟩
  replace hb1 := below_more hb1 hc2
  clear hc2
  go_wp2_with fail
  refine (store_any _ _ _ _).mono ?_
  rintro e w3 ⟨rfl, hc3⟩
  replace hb1 := below_more hb1 hc3
  clear hc3
  have hsz0 := hb1.size
  have hR0 : InsS (w.heap.size + 1) (w3.alloc (.cells #[.int .i64 2, .int .i64 0, .int .i64 0, .int .i64 0, .int .i64 0, .int .i64 0, .int .i64 1, .int .i64 0, .int .i64 1, .int .i64 mode] 37)) (.slice (some ⟨w3.heap.size, 0, none⟩) 2 2) [lodI 0 0 0, stoI 1 1 mode] := InsS.lit (l := [lodI 0 0 0, stoI 1 1 mode]) (by omega) (by simp)
  have hbl := below_alloc w3 (.cells #[.int .i64 2, .int .i64 0, .int .i64 0, .int .i64 0, .int .i64 0, .int .i64 0, .int .i64 1, .int .i64 0, .int .i64 1, .int .i64 mode] 37)
  replace hb1 := below_more hb1 hbl
  go_upto_region 2 with fail
  generalize w3.alloc (.cells #[.int .i64 2, .int .i64 0, .int .i64 0, .int .i64 0, .int .i64 0, .int .i64 0, .int .i64 1, .int .i64 0, .int .i64 1, .int .i64 mode] 37) = w4 at hR0 hbl hb1  ⊢
  generalize w3.heap.size = B0 at hR0 ⊢
  clear hbl hsz0
  go_wp2_with fail
  refine (load_any _ _ _ _).mono ?_
  rintro e w5 ⟨rfl, hc5⟩
  replace hR0 := hR0.keep hc5
  replace hb1 := below_more hb1 hc5
  clear hc5
  go_wp2_with fail
  refine (store_any _ _ _ _).mono ?_
  rintro e w6 ⟨rfl, hc6⟩
  replace hR0 := hR0.keep hc6
  replace hb1 := below_more hb1 hc6
  clear hc6
  have hsz1 := hb1.size
  have hR1 : InsS (w.heap.size + 1) (w6.alloc (.cells #[.int .i64 2, .int .i64 1, .int .i64 0, .int .i64 0, .int .i64 0, .int .i64 0, .int .i64 0, .int .i64 0, .int .i64 1, .int .i64 mode] 37)) (.slice (some ⟨w6.heap.size, 0, none⟩) 2 2) [lodI 0 1 0, stoI 0 1 mode] := InsS.lit (l := [lodI 0 1 0, stoI 0 1 mode]) (by omega) (by simp)
  have hbl := below_alloc w6 (.cells #[.int .i64 2, .int .i64 1, .int .i64 0, .int .i64 0, .int .i64 0, .int .i64 0, .int .i64 0, .int .i64 0, .int .i64 1, .int .i64 mode] 37)
  replace hR0 := hR0.keep hbl
  replace hb1 := below_more hb1 hbl
  go_upto_region 3 with fail
  generalize w6.alloc (.cells #[.int .i64 2, .int .i64 1, .int .i64 0, .int .i64 0, .int .i64 0, .int .i64 0, .int .i64 0, .int .i64 0, .int .i64 1, .int .i64 mode] 37) = w7 at hR1 hbl hb1 hR0 ⊢
  generalize w6.heap.size = B1 at hR1 ⊢
  clear hbl hsz1
  have hs6 := hb1.size
  have hT : ThrS (w.heap.size + 1) (w7.alloc (.cells #[.slice (some ⟨B0, 0, none⟩) 2 2, .slice (some ⟨B1, 0, none⟩) 2 2] 34)) (.slice (some ⟨w7.heap.size, 0, none⟩) 2 2) (earK mode g).T := ThrS.lit (us := [.slice (some ⟨B0, 0, none⟩) 2 2, .slice (some ⟨B1, 0, none⟩) 2 2]) (Ls := [[lodI 0 0 0, stoI 1 1 mode], [lodI 0 1 0, stoI 0 1 mode]]) (by omega) rfl (by simp) (get2 hR0 hR1)
  have hC : AtmS (w.heap.size + 1) ((w7.alloc (.cells #[.slice (some ⟨B0, 0, none⟩) 2 2, .slice (some ⟨B1, 0, none⟩) 2 2] 34)).alloc (.cells #[.int .i64 0, .int .i64 0, .int .i64 1, .int .i64 1, .int .i64 0, .int .i64 1] 101)) (.slice (some ⟨w7.heap.size + 1, 0, none⟩) 2 2) (earK mode g).c := by
    have := AtmS.lit (B := w.heap.size + 1) (w := w7.alloc (.cells #[.slice (some ⟨B0, 0, none⟩) 2 2, .slice (some ⟨B1, 0, none⟩) 2 2] 34)) (c := [⟨0, 0, 1⟩, ⟨1, 0, 1⟩]) (t := 101) (by simp; omega) (by simp)
    rw [World.size_alloc] at this
    exact this
  have hb8 := below_two w7 (.cells #[.slice (some ⟨B0, 0, none⟩) 2 2, .slice (some ⟨B1, 0, none⟩) 2 2] 34) (.cells #[.int .i64 0, .int .i64 0, .int .i64 1, .int .i64 1, .int .i64 0, .int .i64 1] 101)
  have hT8 := hT.keep (below_alloc (w7.alloc (.cells #[.slice (some ⟨B0, 0, none⟩) 2 2, .slice (some ⟨B1, 0, none⟩) 2 2] 34)) (.cells #[.int .i64 0, .int .i64 0, .int .i64 1, .int .i64 1, .int .i64 0, .int .i64 1] 101))
  go_upto_region 4 with fail
  generalize hw8 : (w7.alloc (.cells #[.slice (some ⟨B0, 0, none⟩) 2 2, .slice (some ⟨B1, 0, none⟩) 2 2] 34)).alloc (.cells #[.int .i64 0, .int .i64 0, .int .i64 1, .int .i64 1, .int .i64 0, .int .i64 1] 101) = v8 at hC hb8 hT8 ⊢
  have hz8 : v8.heap.size = w7.heap.size + 1 + 1 := by rw [← hw8]; simp
  rw [← hz8]
  generalize w7.heap.size = B6 at hT8 hC ⊢
  have hb18 := below_more hb1 hb8
  have hbx := below_alloc v8 (.cells #[.slice (some ⟨B6, 0, none⟩) 2 2, .bool false, .slice (some ⟨B6 + 1, 0, none⟩) 2 2] 25)
  have x0 : (v8.alloc (.cells #[.slice (some ⟨B6, 0, none⟩) 2 2, .bool false, .slice (some ⟨B6 + 1, 0, none⟩) 2 2] 25)).cell? ⟨v8.heap.size, 0, none⟩ = some (.slice (some ⟨B6, 0, none⟩) 2 2) := by simp
  have x1 : (v8.alloc (.cells #[.slice (some ⟨B6, 0, none⟩) 2 2, .bool false, .slice (some ⟨B6 + 1, 0, none⟩) 2 2] 25)).cell? ⟨v8.heap.size, 1, none⟩ = some (.bool false) := by simp
  have x2 : (v8.alloc (.cells #[.slice (some ⟨B6, 0, none⟩) 2 2, .bool false, .slice (some ⟨B6 + 1, 0, none⟩) 2 2] 25)).cell? ⟨v8.heap.size, 2, none⟩ = some (.slice (some ⟨B6 + 1, 0, none⟩) 2 2) := by simp
  have hT9 := hT8.keep hbx
  have hC9 := hC.keep hbx
  have hb19 := below_more hb18 hbx
  generalize v8.alloc (.cells #[.slice (some ⟨B6, 0, none⟩) 2 2, .bool false, .slice (some ⟨B6 + 1, 0, none⟩) 2 2] 25) = v9 at hbx x0 x1 x2 hT9 hC9 hb19 ⊢
  generalize v8.heap.size = B8 at x0 x1 x2 ⊢
  have HTC : Hid (ThrS (w.heap.size + 1) v9 (.slice (some ⟨B6, 0, none⟩) 2 2) (earK mode g).T ∧ AtmS (w.heap.size + 1) v9 (.slice (some ⟨B6 + 1, 0, none⟩) 2 2) (earK mode g).c) := ⟨hT9, hC9⟩
  obtain ⟨c0, c1, c2, c3, c4, f0, f1, f2, f3, f4⟩ := hK1.keep hb19
  have hbw9 := below_more hba hb19
  clear hT8 hC hb8 hT hR0 hR1 hb1 hw8 hz8 hb18 hbx hT9 hC9 hb19 hs6 hK1
  go_wp2_with fail
  refine bodyPost_ret (v := .agg #[.slice (some ⟨B6, 0, none⟩) 2 2, .bool false, .slice (some ⟨B6 + 1, 0, none⟩) 2 2, .int .i64 g, .int .i64 3]) (by simp [results, Try.results37, go_sem, *]) rfl (HKO.out _ _ ⟨_, _, rfl, test_mk (HTC.out.1 _ ?_) (HTC.out.2 _ ?_), ?_⟩)
  · repeat (refine Same.set ?_ (by omega) _)
    exact Same.refl _ _
  · repeat (refine Same.set ?_ (by omega) _)
    exact Same.refl _ _
  · repeat (refine Below.setCell ?_ (by first | (simp; done) | (simp; omega) | omega) _)
    exact hbw9

set_option maxRecDepth 20000 in
set_option maxHeartbeats 2000000 in
theorem twice_any (w : World) : Calls Try.prog 39 #[] w (KnO twiK w) := by
  have HKO : Hid (∀ e w', (∃ vt vc, e = .returned (.agg #[vt, .bool false, vc, .int .i64 0, .int .i64 3]) ∧ TestAt w' (.agg #[vt, .bool false, vc]) twiK.T false twiK.c vt vc ∧ Below w.heap.size w w') → KnO twiK w e w') := fun _ _ h => h
  go_enter Try.func39, Try.ntmps39
  go_wp2_with fail
  have hK1 := knB_new w
  have hba := below_alloc w (.cells #[.slice none 0 0, .bool false, .slice none 0 0, .int .i64 0, .int .i64 0] 56)
  have hs1 : w.heap.size + 1 ≤ (w.alloc (.cells #[.slice none 0 0, .bool false, .slice none 0 0, .int .i64 0, .int .i64 0] 56)).heap.size := by simp
  generalize w.alloc (.cells #[.slice none 0 0, .bool false, .slice none 0 0, .int .i64 0, .int .i64 0] 56) = w1 at hK1 hba hs1 ⊢
  have hb1 : Below w1.heap.size w1 w1 := Below.refl _ _
  refine (store_any _ _ _ _).mono ?_
  rintro e w2 ⟨rfl, hc2⟩
  replace hb1 := below_more hb1 hc2
  clear hc2
  have hsz0 := hb1.size
  have hR0 : InsS (w.heap.size + 1) (w2.alloc (.cells #[.int .i64 0, .int .i64 0, .int .i64 0, .int .i64 1, .int .i64 0] 37)) (.slice (some ⟨w2.heap.size, 0, none⟩) 1 1) [stoI 0 1 0] := InsS.lit (l := [stoI 0 1 0]) (by omega) (by simp)
  have hbl := below_alloc w2 (.cells #[.int .i64 0, .int .i64 0, .int .i64 0, .int .i64 1, .int .i64 0] 37)
  replace hb1 := below_more hb1 hbl
  go_upto_region 2 with fail
  generalize w2.alloc (.cells #[.int .i64 0, .int .i64 0, .int .i64 0, .int .i64 1, .int .i64 0] 37) = w3 at hR0 hbl hb1  ⊢
  generalize w2.heap.size = B0 at hR0 ⊢
  clear hbl hsz0
  go_wp2_with fail
  refine (load_any _ _ _ _).mono ?_
  rintro e w4 ⟨rfl, hc4⟩
  replace hR0 := hR0.keep hc4
  replace hb1 := below_more hb1 hc4
  clear hc4
  go_wp2_with fail
  refine (load_any _ _ _ _).mono ?_
  rintro e w5 ⟨rfl, hc5⟩
  replace hR0 := hR0.keep hc5
  replace hb1 := below_more hb1 hc5
  clear hc5
  have hsz1 := hb1.size
  have hR1 : InsS (w.heap.size + 1) (w5.alloc (.cells #[.int .i64 2, .int .i64 0, .int .i64 0, .int .i64 0, .int .i64 0, .int .i64 2, .int .i64 0, .int .i64 1, .int .i64 0, .int .i64 0] 37)) (.slice (some ⟨w5.heap.size, 0, none⟩) 2 2) [lodI 0 0 0, lodI 1 0 0] := InsS.lit (l := [lodI 0 0 0, lodI 1 0 0]) (by omega) (by simp)
  have hbl := below_alloc w5 (.cells #[.int .i64 2, .int .i64 0, .int .i64 0, .int .i64 0, .int .i64 0, .int .i64 2, .int .i64 0, .int .i64 1, .int .i64 0, .int .i64 0] 37)
  replace hR0 := hR0.keep hbl
  replace hb1 := below_more hb1 hbl
  go_upto_region 3 with fail
  generalize w5.alloc (.cells #[.int .i64 2, .int .i64 0, .int .i64 0, .int .i64 0, .int .i64 0, .int .i64 2, .int .i64 0, .int .i64 1, .int .i64 0, .int .i64 0] 37) = w6 at hR1 hbl hb1 hR0 ⊢
  generalize w5.heap.size = B1 at hR1 ⊢
  clear hbl hsz1
  have hs6 := hb1.size
  have hT : ThrS (w.heap.size + 1) (w6.alloc (.cells #[.slice (some ⟨B0, 0, none⟩) 1 1, .slice (some ⟨B1, 0, none⟩) 2 2] 34)) (.slice (some ⟨w6.heap.size, 0, none⟩) 2 2) twiK.T := ThrS.lit (us := [.slice (some ⟨B0, 0, none⟩) 1 1, .slice (some ⟨B1, 0, none⟩) 2 2]) (Ls := [[stoI 0 1 0], [lodI 0 0 0, lodI 1 0 0]]) (by omega) rfl (by simp) (get2 hR0 hR1)
  have hC : AtmS (w.heap.size + 1) ((w6.alloc (.cells #[.slice (some ⟨B0, 0, none⟩) 1 1, .slice (some ⟨B1, 0, none⟩) 2 2] 34)).alloc (.cells #[.int .i64 1, .int .i64 0, .int .i64 1, .int .i64 1, .int .i64 1, .int .i64 0] 101)) (.slice (some ⟨w6.heap.size + 1, 0, none⟩) 2 2) twiK.c := by
    have := AtmS.lit (B := w.heap.size + 1) (w := w6.alloc (.cells #[.slice (some ⟨B0, 0, none⟩) 1 1, .slice (some ⟨B1, 0, none⟩) 2 2] 34)) (c := [⟨1, 0, 1⟩, ⟨1, 1, 0⟩]) (t := 101) (by simp; omega) (by simp)
    rw [World.size_alloc] at this
    exact this
  have hb8 := below_two w6 (.cells #[.slice (some ⟨B0, 0, none⟩) 1 1, .slice (some ⟨B1, 0, none⟩) 2 2] 34) (.cells #[.int .i64 1, .int .i64 0, .int .i64 1, .int .i64 1, .int .i64 1, .int .i64 0] 101)
  have hT8 := hT.keep (below_alloc (w6.alloc (.cells #[.slice (some ⟨B0, 0, none⟩) 1 1, .slice (some ⟨B1, 0, none⟩) 2 2] 34)) (.cells #[.int .i64 1, .int .i64 0, .int .i64 1, .int .i64 1, .int .i64 1, .int .i64 0] 101))
  go_upto_region 4 with fail
  generalize hw8 : (w6.alloc (.cells #[.slice (some ⟨B0, 0, none⟩) 1 1, .slice (some ⟨B1, 0, none⟩) 2 2] 34)).alloc (.cells #[.int .i64 1, .int .i64 0, .int .i64 1, .int .i64 1, .int .i64 1, .int .i64 0] 101) = v8 at hC hb8 hT8 ⊢
  have hz8 : v8.heap.size = w6.heap.size + 1 + 1 := by rw [← hw8]; simp
  rw [← hz8]
  generalize w6.heap.size = B6 at hT8 hC ⊢
  have hb18 := below_more hb1 hb8
  have hbx := below_alloc v8 (.cells #[.slice (some ⟨B6, 0, none⟩) 2 2, .bool false, .slice (some ⟨B6 + 1, 0, none⟩) 2 2] 25)
  have x0 : (v8.alloc (.cells #[.slice (some ⟨B6, 0, none⟩) 2 2, .bool false, .slice (some ⟨B6 + 1, 0, none⟩) 2 2] 25)).cell? ⟨v8.heap.size, 0, none⟩ = some (.slice (some ⟨B6, 0, none⟩) 2 2) := by simp
  have x1 : (v8.alloc (.cells #[.slice (some ⟨B6, 0, none⟩) 2 2, .bool false, .slice (some ⟨B6 + 1, 0, none⟩) 2 2] 25)).cell? ⟨v8.heap.size, 1, none⟩ = some (.bool false) := by simp
  have x2 : (v8.alloc (.cells #[.slice (some ⟨B6, 0, none⟩) 2 2, .bool false, .slice (some ⟨B6 + 1, 0, none⟩) 2 2] 25)).cell? ⟨v8.heap.size, 2, none⟩ = some (.slice (some ⟨B6 + 1, 0, none⟩) 2 2) := by simp
  have hT9 := hT8.keep hbx
  have hC9 := hC.keep hbx
  have hb19 := below_more hb18 hbx
  generalize v8.alloc (.cells #[.slice (some ⟨B6, 0, none⟩) 2 2, .bool false, .slice (some ⟨B6 + 1, 0, none⟩) 2 2] 25) = v9 at hbx x0 x1 x2 hT9 hC9 hb19 ⊢
  generalize v8.heap.size = B8 at x0 x1 x2 ⊢
  have HTC : Hid (ThrS (w.heap.size + 1) v9 (.slice (some ⟨B6, 0, none⟩) 2 2) twiK.T ∧ AtmS (w.heap.size + 1) v9 (.slice (some ⟨B6 + 1, 0, none⟩) 2 2) twiK.c) := ⟨hT9, hC9⟩
  obtain ⟨c0, c1, c2, c3, c4, f0, f1, f2, f3, f4⟩ := hK1.keep hb19
  have hbw9 := below_more hba hb19
  clear hT8 hC hb8 hT hR0 hR1 hb1 hw8 hz8 hb18 hbx hT9 hC9 hb19 hs6 hK1
  go_wp2_with fail
  refine bodyPost_ret (v := .agg #[.slice (some ⟨B6, 0, none⟩) 2 2, .bool false, .slice (some ⟨B6 + 1, 0, none⟩) 2 2, .int .i64 0, .int .i64 3]) (by simp [results, Try.results39, go_sem, *]) rfl (HKO.out _ _ ⟨_, _, rfl, test_mk (HTC.out.1 _ ?_) (HTC.out.2 _ ?_), ?_⟩)
  · repeat (refine Same.set ?_ (by omega) _)
    exact Same.refl _ _
  · repeat (refine Same.set ?_ (by omega) _)
    exact Same.refl _ _
  · repeat (refine Below.setCell ?_ (by first | (simp; done) | (simp; omega) | omega) _)
    exact hbw9

set_option maxRecDepth 20000 in
set_option maxHeartbeats 2000000 in
theorem taken_any (w : World) : Calls Try.prog 40 #[] w (KnO takK w) := by
  have HKO : Hid (∀ e w', (∃ vt vc, e = .returned (.agg #[vt, .bool false, vc, .int .i64 0, .int .i64 2]) ∧ TestAt w' (.agg #[vt, .bool false, vc]) takK.T false takK.c vt vc ∧ Below w.heap.size w w') → KnO takK w e w') := fun _ _ h => h
  go_enter Try.func40, Try.ntmps40
  go_upto_region 1 with fail
  have hK1 := knB_new w
  have hba := below_alloc w (.cells #[.slice none 0 0, .bool false, .slice none 0 0, .int .i64 0, .int .i64 0] 56)
  have hs1 : w.heap.size + 1 ≤ (w.alloc (.cells #[.slice none 0 0, .bool false, .slice none 0 0, .int .i64 0, .int .i64 0] 56)).heap.size := by simp
  generalize w.alloc (.cells #[.slice none 0 0, .bool false, .slice none 0 0, .int .i64 0, .int .i64 0] 56) = w1 at hK1 hba hs1 ⊢
  have hb1 : Below w1.heap.size w1 w1 := Below.refl _ _
  have hsz0 := hb1.size
  have hR0 : InsS (w.heap.size + 1) (w1.alloc (.cells #[.int .i64 3, .int .i64 0, .int .i64 0, .int .i64 1, .int .i64 0] 37)) (.slice (some ⟨w1.heap.size, 0, none⟩) 1 1) [⟨3, 0, 0, 1, 0⟩] := InsS.lit (l := [⟨3, 0, 0, 1, 0⟩]) (by omega) (by simp)
  have hbl := below_alloc w1 (.cells #[.int .i64 3, .int .i64 0, .int .i64 0, .int .i64 1, .int .i64 0] 37)
  replace hb1 := below_more hb1 hbl
  go_upto_region 2 with fail
  generalize w1.alloc (.cells #[.int .i64 3, .int .i64 0, .int .i64 0, .int .i64 1, .int .i64 0] 37) = w2 at hR0 hbl hb1  ⊢
  generalize w1.heap.size = B0 at hR0 ⊢
  clear hbl hsz0
  have hs6 := hb1.size
  have hT : ThrS (w.heap.size + 1) (w2.alloc (.cells #[.slice (some ⟨B0, 0, none⟩) 1 1, .slice (some ⟨B0, 0, none⟩) 1 1] 34)) (.slice (some ⟨w2.heap.size, 0, none⟩) 2 2) takK.T := ThrS.lit (us := [.slice (some ⟨B0, 0, none⟩) 1 1, .slice (some ⟨B0, 0, none⟩) 1 1]) (Ls := [[⟨3, 0, 0, 1, 0⟩], [⟨3, 0, 0, 1, 0⟩]]) (by omega) rfl (by simp) (get2 hR0 hR0)
  have hC : AtmS (w.heap.size + 1) ((w2.alloc (.cells #[.slice (some ⟨B0, 0, none⟩) 1 1, .slice (some ⟨B0, 0, none⟩) 1 1] 34)).alloc (.cells #[.int .i64 0, .int .i64 0, .int .i64 0, .int .i64 1, .int .i64 0, .int .i64 0] 101)) (.slice (some ⟨w2.heap.size + 1, 0, none⟩) 2 2) takK.c := by
    have := AtmS.lit (B := w.heap.size + 1) (w := w2.alloc (.cells #[.slice (some ⟨B0, 0, none⟩) 1 1, .slice (some ⟨B0, 0, none⟩) 1 1] 34)) (c := [⟨0, 0, 0⟩, ⟨1, 0, 0⟩]) (t := 101) (by simp; omega) (by simp)
    rw [World.size_alloc] at this
    exact this
  have hb8 := below_two w2 (.cells #[.slice (some ⟨B0, 0, none⟩) 1 1, .slice (some ⟨B0, 0, none⟩) 1 1] 34) (.cells #[.int .i64 0, .int .i64 0, .int .i64 0, .int .i64 1, .int .i64 0, .int .i64 0] 101)
  have hT8 := hT.keep (below_alloc (w2.alloc (.cells #[.slice (some ⟨B0, 0, none⟩) 1 1, .slice (some ⟨B0, 0, none⟩) 1 1] 34)) (.cells #[.int .i64 0, .int .i64 0, .int .i64 0, .int .i64 1, .int .i64 0, .int .i64 0] 101))
  go_upto_region 3 with fail
  generalize hw8 : (w2.alloc (.cells #[.slice (some ⟨B0, 0, none⟩) 1 1, .slice (some ⟨B0, 0, none⟩) 1 1] 34)).alloc (.cells #[.int .i64 0, .int .i64 0, .int .i64 0, .int .i64 1, .int .i64 0, .int .i64 0] 101) = v8 at hC hb8 hT8 ⊢
  have hz8 : v8.heap.size = w2.heap.size + 1 + 1 := by rw [← hw8]; simp
  rw [← hz8]
  generalize w2.heap.size = B6 at hT8 hC ⊢
  have hb18 := below_more hb1 hb8
  have hbx := below_alloc v8 (.cells #[.slice (some ⟨B6, 0, none⟩) 2 2, .bool false, .slice (some ⟨B6 + 1, 0, none⟩) 2 2] 25)
  have x0 : (v8.alloc (.cells #[.slice (some ⟨B6, 0, none⟩) 2 2, .bool false, .slice (some ⟨B6 + 1, 0, none⟩) 2 2] 25)).cell? ⟨v8.heap.size, 0, none⟩ = some (.slice (some ⟨B6, 0, none⟩) 2 2) := by simp
  have x1 : (v8.alloc (.cells #[.slice (some ⟨B6, 0, none⟩) 2 2, .bool false, .slice (some ⟨B6 + 1, 0, none⟩) 2 2] 25)).cell? ⟨v8.heap.size, 1, none⟩ = some (.bool false) := by simp
  have x2 : (v8.alloc (.cells #[.slice (some ⟨B6, 0, none⟩) 2 2, .bool false, .slice (some ⟨B6 + 1, 0, none⟩) 2 2] 25)).cell? ⟨v8.heap.size, 2, none⟩ = some (.slice (some ⟨B6 + 1, 0, none⟩) 2 2) := by simp
  have hT9 := hT8.keep hbx
  have hC9 := hC.keep hbx
  have hb19 := below_more hb18 hbx
  generalize v8.alloc (.cells #[.slice (some ⟨B6, 0, none⟩) 2 2, .bool false, .slice (some ⟨B6 + 1, 0, none⟩) 2 2] 25) = v9 at hbx x0 x1 x2 hT9 hC9 hb19 ⊢
  generalize v8.heap.size = B8 at x0 x1 x2 ⊢
  have HTC : Hid (ThrS (w.heap.size + 1) v9 (.slice (some ⟨B6, 0, none⟩) 2 2) takK.T ∧ AtmS (w.heap.size + 1) v9 (.slice (some ⟨B6 + 1, 0, none⟩) 2 2) takK.c) := ⟨hT9, hC9⟩
  obtain ⟨c0, c1, c2, c3, c4, f0, f1, f2, f3, f4⟩ := hK1.keep hb19
  have hbw9 := below_more hba hb19
  clear hT8 hC hb8 hT hR0 hb1 hw8 hz8 hb18 hbx hT9 hC9 hb19 hs6 hK1
  go_wp2_with fail
  refine bodyPost_ret (v := .agg #[.slice (some ⟨B6, 0, none⟩) 2 2, .bool false, .slice (some ⟨B6 + 1, 0, none⟩) 2 2, .int .i64 0, .int .i64 2]) (by simp [results, Try.results40, go_sem, *]) rfl (HKO.out _ _ ⟨_, _, rfl, test_mk (HTC.out.1 _ ?_) (HTC.out.2 _ ?_), ?_⟩)
  · repeat (refine Same.set ?_ (by omega) _)
    exact Same.refl _ _
  · repeat (refine Same.set ?_ (by omega) _)
    exact Same.refl _ _
  · repeat (refine Below.setCell ?_ (by first | (simp; done) | (simp; omega) | omega) _)
    exact hbw9

end Go.Proofs.Ytomijmikkbhgmab
