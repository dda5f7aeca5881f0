import Derived.Test.YtomijmikkbhgmaaT16
import Derived.Test.YtomijmikkbhgmaaT17
import Derived.Deep.OwnRows
import Derived.Deep.Cut
namespace Go.Proofs.Ytomijmikkbhgmaa
open Go.RowKit

/-- The tally under way: its three blocks, and how many are counted by now. -/
structure Tal (w wr : World) (vt : Value) (bC bW bR : Nat) (fW fR : Nat → Nat) : Prop where
  hb : Below w.heap.size w wr
  c0 : wr.cell? ⟨w.heap.size, 0, none⟩ = some vt
  d0 : wr.cell? ⟨w.heap.size + 1, 0, none⟩ = some (.slice none 0 0)
  d1 : wr.cell? ⟨w.heap.size + 1, 1, none⟩ = some (.slice none 0 0)
  f0 : wr.frozen? ⟨w.heap.size + 1, 0, none⟩ = false
  f1 : wr.frozen? ⟨w.heap.size + 1, 1, none⟩ = false
  p0 : wr.cell? ⟨bC, 0, none⟩ = some (.slice (some ⟨bW, 0, none⟩) 3 3)
  p1 : wr.cell? ⟨bC, 1, none⟩ = some (.slice (some ⟨bR, 0, none⟩) 3 3)
  rW : wr.rowIs bW 3 3 (fun i => .int .i64 (fW i))
  rR : wr.rowIs bR 3 3 (fun i => .int .i64 (fR i))
  n1 : w.heap.size + 2 ≤ bC
  n2 : w.heap.size + 2 ≤ bW
  n3 : w.heap.size + 2 ≤ bR
  a1 : bC ≠ bW
  a2 : bC ≠ bR
  a3 : bW ≠ bR

theorem Tal.keep {w wr w' : World} {vt : Value} {bC bW bR : Nat} {fW fR : Nat → Nat} (h : Tal w wr vt bC bW bR fW fR) (hb : Below wr.heap.size wr w') : Tal w w' vt bC bW bR fW fR := by
  have s1 := World.block_lt_of_cell? _ _ h.d0
  have s2 := World.block_lt_of_cell? _ _ h.d1
  exact ⟨below_more h.hb hb, keep_cell hb h.c0, keep_cell hb h.d0, keep_cell hb h.d1, (hb.frozen (p := ⟨w.heap.size + 1, 0, none⟩) s1).trans h.f0, (hb.frozen (p := ⟨w.heap.size + 1, 1, none⟩) s2).trans h.f1,
    keep_cell hb h.p0, keep_cell hb h.p1, h.rW.of_block (hb.block _ h.rW.lt), h.rR.of_block (hb.block _ h.rR.lt), h.n1, h.n2, h.n3, h.a1, h.a2, h.a3⟩

theorem cell_setO {w : World} {b o b' o' : Nat} {u v : Value} (h : w.cell? ⟨b, o, none⟩ = some u) (hn : b ≠ b') : (w.setCell ⟨b', o', none⟩ v).cell? ⟨b, o, none⟩ = some u :=
  (World.cell?_of_block (w := w) (a := ⟨b, o, none⟩) (Go.Deep.blk_setCell_other _ _ _ _ hn)).trans h
theorem frozen_setO {w : World} {b o b' o' : Nat} {v : Value} (h : w.frozen? ⟨b, o, none⟩ = false) (hn : b ≠ b') : (w.setCell ⟨b', o', none⟩ v).frozen? ⟨b, o, none⟩ = false :=
  (World.frozen?_of_block (w := w) (a := ⟨b, o, none⟩) (Go.Deep.blk_setCell_other _ _ _ _ hn)).trans h

def inc (f : Nat → Nat) (j : Nat) : Nat → Nat := fun i => if i = j then f i + 1 else f i

theorem Tal.incW {w wr : World} {vt : Value} {bC bW bR : Nat} {fW fR : Nat → Nat} (h : Tal w wr vt bC bW bR fW fR) (j : Nat) : Tal w (wr.setCell ⟨bW, j, none⟩ (.int .i64 ((fW j : Int) + 1))) vt bC bW bR (inc fW j) fR := by
  have n2 := h.n2
  refine ⟨h.hb.setCell (by simp; omega) _, cell_setO h.c0 (by omega), cell_setO h.d0 (by omega), cell_setO h.d1 (by omega), frozen_setO h.f0 (by omega), frozen_setO h.f1 (by omega), cell_setO h.p0 h.a1, cell_setO h.p1 h.a1, (h.rW.set j _).congr fun i _ => ?_, h.rR.setOther h.a3.symm _, h.n1, h.n2, h.n3, h.a1, h.a2, h.a3⟩
  unfold inc
  by_cases e : i = j
  · subst e; simp
  · simp [e]

theorem Tal.incR {w wr : World} {vt : Value} {bC bW bR : Nat} {fW fR : Nat → Nat} (h : Tal w wr vt bC bW bR fW fR) (j : Nat) : Tal w (wr.setCell ⟨bR, j, none⟩ (.int .i64 ((fR j : Int) + 1))) vt bC bW bR fW (inc fR j) := by
  have n2 := h.n3
  refine ⟨h.hb.setCell (by simp; omega) _, cell_setO h.c0 (by omega), cell_setO h.d0 (by omega), cell_setO h.d1 (by omega), frozen_setO h.f0 (by omega), frozen_setO h.f1 (by omega), cell_setO h.p0 h.a2, cell_setO h.p1 h.a2, h.rW.setOther h.a3 _, (h.rR.set j _).congr fun i _ => ?_, h.n1, h.n2, h.n3, h.a1, h.a2, h.a3⟩
  unfold inc
  by_cases e : i = j
  · subst e; simp
  · simp [e]

/-- What is counted, and what is left to be counted. -/
def Left (T : List (List Ins)) (fW fR : Nat → Nat) (l : List Ins) (R : List (List Ins)) : Prop := ∀ i : Nat, i < 3 → cw (i : Int) T = fW i + (cwL (i : Int) l + cw (i : Int) R) ∧ cr (i : Int) T = fR i + (crL (i : Int) l + cr (i : Int) R)

theorem Left.step {T : List (List Ins)} {fW fR gW gR : Nat → Nat} {x : Ins} {l : List Ins} {R : List (List Ins)} (h : Left T fW fR (x :: l) R) {j : Nat} (hj : x.loc = (j : Int)) (hW : gW = if isW x then inc fW j else fW) (hR : gR = if isR x then inc fR j else fR) : Left T gW gR l R := by
  intro i hi
  obtain ⟨h1, h2⟩ := h i hi
  subst hW hR
  simp only [cwL, crL] at h1 h2 ⊢
  rw [List.filter_cons, hj] at h1 h2
  have e : ((j : Int) == (i : Int)) = decide (i = j) := by
    by_cases e : i = j
    · subst e; simp
    · simp [e]; omega
  rw [e] at h1 h2
  constructor
  · rw [h1]
    by_cases e : i = j
    · cases isW x <;> simp [inc, e] <;> omega
    · cases isW x <;> simp [inc, e]
  · rw [h2]
    by_cases e : i = j
    · cases isR x <;> simp [inc, e] <;> omega
    · cases isR x <;> simp [inc, e]

theorem cwL_le (j : Int) (l : List Ins) : cwL j l ≤ l.length := List.length_filter_le _ _
theorem crL_le (j : Int) (l : List Ins) : crL j l ≤ l.length := List.length_filter_le _ _
theorem cw_le (j : Int) (T : List (List Ins)) (h : lensB T = true) : cw j T ≤ 12 * T.length ∧ cr j T ≤ 12 * T.length := by
  induction T with
  | nil => simp [cw, cr]
  | cons l T ih =>
    simp only [lensB, Bool.and_eq_true, decide_eq_true_eq] at h
    have := ih h.2; have := cwL_le j l; have := crL_le j l
    simp only [cw, cr, List.length_cons]; omega

theorem make3 (w : World) : (Instr.makeSlice 37 (.int .i64 3) (.int .i64 3)).run Try.prog w = .ok (.slice (some ⟨w.heap.size, 0, none⟩) 3 3) (w.alloc (.cells #[.int .i64 0, .int .i64 0, .int .i64 0] 3)) := by kernel_rfl

theorem Tal.mk0 {w wx : World} {vt fa vc : Value} {t0 t1 t2 : TypeId} {bC bW bR : Nat} (hb : Below w.heap.size w wx) (h0 : wx.heap[w.heap.size]? = some (.cells #[vt, fa, vc] t0)) (h1 : wx.heap[w.heap.size + 1]? = some (.cells #[.slice none 0 0, .slice none 0 0] t1))
    (hC : wx.heap[bC]? = some (.cells #[.slice (some ⟨bW, 0, none⟩) 3 3, .slice (some ⟨bR, 0, none⟩) 3 3] t2)) (hW : wx.heap[bW]? = some (.cells #[.int .i64 0, .int .i64 0, .int .i64 0] 3)) (hR : wx.heap[bR]? = some (.cells #[.int .i64 0, .int .i64 0, .int .i64 0] 3))
    (hn : w.heap.size + 2 ≤ bC ∧ w.heap.size + 2 ≤ bW ∧ w.heap.size + 2 ≤ bR ∧ bC ≠ bW ∧ bC ≠ bR ∧ bW ≠ bR) : Tal w wx vt bC bW bR (fun _ => 0) (fun _ => 0) := by
  refine ⟨hb, by simp [World.cell?, h0], by simp [World.cell?, h1], by simp [World.cell?, h1], by simp [World.frozen?, h1], by simp [World.frozen?, h1], by simp [World.cell?, hC], by simp [World.cell?, hC], ⟨_, hW, rfl, ?_⟩, ⟨_, hR, rfl, ?_⟩, hn.1, hn.2.1, hn.2.2.1, hn.2.2.2.1, hn.2.2.2.2.1, hn.2.2.2.2.2⟩
  all_goals
    intro i hi
    match i, hi with
    | 0, _ => rfl
    | 1, _ => rfl
    | 2, _ => rfl

/-- Five new blocks. -/
structure Blk5 (n : Nat) (wx : World) (o1 o2 o3 o4 o5 : Obj) : Prop where
  b0 : wx.heap[n]? = some o1
  b1 : wx.heap[n + 1]? = some o2
  b2 : wx.heap[n + 1 + 1]? = some o3
  b3 : wx.heap[n + 1 + 1 + 1]? = some o4
  b4 : wx.heap[n + 1 + 1 + 1 + 1]? = some o5

theorem blk5 (w : World) (o1 o2 o3 o4 o5 : Obj) : Blk5 w.heap.size (((((w.alloc o1).alloc o2).alloc o3).alloc o4).alloc o5).drew o1 o2 o3 o4 o5 := by
  have e : (((((w.alloc o1).alloc o2).alloc o3).alloc o4).alloc o5).drew.heap = ((((w.heap.push o1).push o2).push o3).push o4).push o5 := rfl
  constructor
  all_goals
    rw [e]
    simp only [Array.getElem?_push, Array.size_push]
    repeat (first | rw [if_pos trivial] | rw [if_pos (by omega)] | rw [if_neg (by omega)])

theorem blk5b (w : World) (o1 o2 o3 o4 o5 : Obj) : Below w.heap.size w (((((w.alloc o1).alloc o2).alloc o3).alloc o4).alloc o5).drew :=
  (((((below_alloc w o1).alloc (by simp) o2).alloc (by simp only [World.size_alloc]; omega) o3).alloc (by simp only [World.size_alloc]; omega) o4).alloc (by simp only [World.size_alloc]; omega) o5).drew

theorem Tal.ints {w wr : World} {vt : Value} {bC bW bR : Nat} {fW fR : Nat → Nat} (h : Tal w wr vt bC bW bR fW fR) {T : List (List Ins)} (hl : Left T fW fR [] []) {w' : World} (hw : ∀ b : Nat, w.heap.size + 2 ≤ b → w'.heap[b]? = wr.heap[b]?) :
    IntAt w' (.slice (some ⟨bW, 0, none⟩) 3 3) ((tly T).map fun p => (p.1 : Int)) ∧ IntAt w' (.slice (some ⟨bR, 0, none⟩) 3 3) ((tly T).map fun p => (p.2 : Int)) := by
  have kW := h.rW.of_block (hw bW h.n2)
  have kR := h.rR.of_block (hw bR h.n3)
  have l0 := hl 0 (by omega); have l1 := hl 1 (by omega); have l2 := hl 2 (by omega)
  simp only [cwL, crL, cw, cr, List.filter_nil, List.length_nil, Nat.add_zero] at l0 l1 l2
  constructor
  · refine ⟨_, bW, 0, 3, rfl, fun _ => rfl, fun h => by simp at h, fun k x hx => ?_⟩
    unfold IntC
    rw [Nat.mul_one, Nat.zero_add]
    match k, hx with
    | 0, hx => simp [tly] at hx; subst hx; rw [kW.cell (by omega)]; simp [← l0.1]
    | 1, hx => simp [tly] at hx; subst hx; rw [kW.cell (by omega)]; simp [← l1.1]
    | 2, hx => simp [tly] at hx; subst hx; rw [kW.cell (by omega)]; simp [← l2.1]
    | k + 3, hx => simp [tly] at hx
  · refine ⟨_, bR, 0, 3, rfl, fun _ => rfl, fun h => by simp at h, fun k x hx => ?_⟩
    unfold IntC
    rw [Nat.mul_one, Nat.zero_add]
    match k, hx with
    | 0, hx => simp [tly] at hx; subst hx; rw [kR.cell (by omega)]; simp [← l0.2]
    | 1, hx => simp [tly] at hx; subst hx; rw [kR.cell (by omega)]; simp [← l1.2]
    | 2, hx => simp [tly] at hx; subst hx; rw [kR.cell (by omega)]; simp [← l2.2]
    | k + 3, hx => simp [tly] at hx

set_option maxHeartbeats 1000000 in
theorem tallied_any (T : List (List Ins)) (fa : Bool) (c : List Atm) (v vt vc : Value) (w : World) (h : TestAt w v T fa c vt vc) (h2 : T.length ≤ 4) (hL : lensB T = true) (hloc : ∀ l ∈ T, ∀ x ∈ l, locB x.loc = true) :
    Calls Try.prog 23 #[v] w fun e w' => ∃ vw vr, e = .returned (.agg #[vw, vr]) ∧ IntAt w' vw ((tly T).map fun p => (p.1 : Int)) ∧ IntAt w' vr ((tly T).map fun p => (p.2 : Int)) ∧ Below w.heap.size w w' := by
  obtain ⟨hv, ht, _⟩ := h
  subst hv
  have HT : Hid (ThrAt w vt T) := ht
  have HL : Hid (lensB T = true ∧ ∀ l ∈ T, ∀ x ∈ l, locB x.loc = true) := ⟨hL, hloc⟩
  clear ht hL hloc
  have hmk : ∀ w, (Instr.makeSlice 37 (.int .i64 3) (.int .i64 3)).run Try.prog w = .ok (.slice (some ⟨w.heap.size, 0, none⟩) 3 3) (w.alloc (.cells #[.int .i64 0, .int .i64 0, .int .i64 0] 3)) := make3
  go_enter Try.func23, Try.ntmps23
  go_upto_region 1 with fail
  go_cut [3] from 7 (fun s wx => ∃ bC bW bR, s = .pointer (some ⟨bC, 0, none⟩) ∧ Tal w wx vt bC bW bR (fun _ => 0) (fun _ => 0))
  case first =>
    go_region
    all_goals
      go_wp2_with fail
      go_meet
      case rel =>
        first
          | exact ⟨w.heap.size + 1 + 1 + 1 + 1, w.heap.size + 1 + 1, w.heap.size + 1 + 1 + 1, rfl, Tal.mk0 (blk5b w _ _ _ _ _) (blk5 w _ _ _ _ _).b0 (blk5 w _ _ _ _ _).b1 (blk5 w _ _ _ _ _).b4 (blk5 w _ _ _ _ _).b2 (blk5 w _ _ _ _ _).b3 (by omega)⟩
          | exact ⟨w.heap.size + 1 + 1 + 1, w.heap.size + 1 + 1, w.heap.size + 1 + 1 + 1 + 1, rfl, Tal.mk0 (blk5b w _ _ _ _ _) (blk5 w _ _ _ _ _).b0 (blk5 w _ _ _ _ _).b1 (blk5 w _ _ _ _ _).b3 (blk5 w _ _ _ _ _).b2 (blk5 w _ _ _ _ _).b4 (by omega)⟩
          | exact ⟨w.heap.size + 1 + 1 + 1 + 1, w.heap.size + 1 + 1 + 1, w.heap.size + 1 + 1, rfl, Tal.mk0 (blk5b w _ _ _ _ _) (blk5 w _ _ _ _ _).b0 (blk5 w _ _ _ _ _).b1 (blk5 w _ _ _ _ _).b4 (blk5 w _ _ _ _ _).b3 (blk5 w _ _ _ _ _).b2 (by omega)⟩
          | exact ⟨w.heap.size + 1 + 1 + 1, w.heap.size + 1 + 1 + 1 + 1, w.heap.size + 1 + 1, rfl, Tal.mk0 (blk5b w _ _ _ _ _) (blk5 w _ _ _ _ _).b0 (blk5 w _ _ _ _ _).b1 (blk5 w _ _ _ _ _).b3 (blk5 w _ _ _ _ _).b4 (blk5 w _ _ _ _ _).b2 (by omega)⟩
          | exact ⟨w.heap.size + 1 + 1, w.heap.size + 1 + 1 + 1, w.heap.size + 1 + 1 + 1 + 1, rfl, Tal.mk0 (blk5b w _ _ _ _ _) (blk5 w _ _ _ _ _).b0 (blk5 w _ _ _ _ _).b1 (blk5 w _ _ _ _ _).b2 (blk5 w _ _ _ _ _).b3 (blk5 w _ _ _ _ _).b4 (by omega)⟩
          | exact ⟨w.heap.size + 1 + 1, w.heap.size + 1 + 1 + 1 + 1, w.heap.size + 1 + 1 + 1, rfl, Tal.mk0 (blk5b w _ _ _ _ _) (blk5 w _ _ _ _ _).b0 (blk5 w _ _ _ _ _).b1 (blk5 w _ _ _ _ _).b2 (blk5 w _ _ _ _ _).b4 (blk5 w _ _ _ _ _).b3 (by omega)⟩
  case rest =>
    obtain ⟨bC, bW, bR, rfl, htal⟩ := hcut
    clear hmk
    obtain ⟨ht0, ao, b, off, cap, htv, hta, _, htc⟩ := HT.out.opened
    subst htv
    have HTC : Hid (∀ k l, T[k]? = some l → b < w.heap.size ∧ ∃ ao' cap', w.cell? ⟨b, off + k, none⟩ = some (.slice ao' l.length cap') ∧ InsAt w (.slice ao' l.length cap') l) := htc
    have HS : Hid (Left T (fun _ => 0) (fun _ => 0) [] T) := fun i _ => ⟨by simp [cwL], by simp [crL]⟩
    have HTL : Hid (Tal w wc (.slice ao T.length cap) bC bW bR (fun _ => 0) (fun _ => 0)) := htal
    have hcw : Hid (∀ i : Nat, cw (i : Int) T ≤ 48 ∧ cr (i : Int) T ≤ 48) := fun i => by have := cw_le (i : Int) T HL.out.1; omega
    clear htc HT htal
    go_wp2_with fail
    go_loopw [4] (fun i wr => ∃ (k : Nat) (fW fR : Nat → Nat), k ≤ T.length ∧ i = .int .i64 k ∧ Hid (Left T fW fR [] (T.drop k)) ∧ Hid (Tal w wr (.slice ao T.length cap) bC bW bR fW fR)) (fun i _ => T.length - (intOf i).toNat)
    case atStart => exact ⟨0, _, _, Nat.zero_le _, rfl, HS.out, HTL.out⟩
    case round =>
      clear HTL HS
      obtain ⟨k, fW, fR, hk, rfl, hn, htal⟩ := hrel
      have c0 := htal.out.c0
      by_cases hlt : k < T.length
      · obtain ⟨l, hl⟩ := get_of_lt hlt
        obtain rfl := hta (ne_nil hlt)
        obtain ⟨hbl, ao2, cap2, g0, hi2⟩ := HTC.out k l hl
        have HIL : Hid (InsAt w (.slice ao2 l.length cap2) l) := hi2
        have hll := lensB_get HL.out.1 hl
        have HLO : Hid (∀ x ∈ l, locB x.loc = true) := HL.out.2 l (List.mem_of_getElem? hl)
        have HN : Hid (Left T fW fR l (T.drop (k + 1))) := fun i hi => by
          have := hn.out i hi
          rw [drop_cons hl] at this
          simpa [cwL, crL, cw, cr] using this
        have hkI : (k : Int) < (T.length : Int) := by omega
        clear hi2 hn hl
        have HTL : Hid (Tal w wr (.slice (some ⟨b, off, none⟩) T.length cap) bC bW bR fW fR) := htal.out
        clear htal
        go_wp2_with fail
        go_loopw [5] (fun i wr => ∃ (j : Nat) (fW fR : Nat → Nat), j ≤ l.length ∧ i = .int .i64 j ∧ Hid (Left T fW fR (l.drop j) (T.drop (k + 1))) ∧ Hid (Tal w wr (.slice (some ⟨b, off, none⟩) T.length cap) bC bW bR fW fR)) (fun i _ => l.length - (intOf i).toNat)
        case atStart => exact ⟨0, _, _, Nat.zero_le _, rfl, HN.out, HTL.out⟩
        case round =>
          clear HTL HN c0
          obtain ⟨j, gW, gR, hj, rfl, hn, htal⟩ := hrel
          obtain ⟨hb2, c0, _, _, _, _, p0, p1, rW, rR, _, _, _, a1, a2, a3⟩ := htal.out
          have g1 := keep_cell hb2 g0
          by_cases hlt2 : j < l.length
          · obtain ⟨⟨op, loc, reg, val, mode⟩, hx⟩ := get_of_lt hlt2
            obtain ⟨_, ao3, b3, off3, cap3, hv3, ha3, _, hc3⟩ := HIL.out
            have hC := hc3 j _ hx
            have hbl3 := hC.lt
            obtain ⟨e0, e1, e2, e3, e4⟩ := insC_keeps _ _ _ _ _ hb2 hC
            have hlo := HLO.out _ (List.mem_of_getElem? hx)
            unfold locB at hlo
            simp only [Bool.and_eq_true, decide_eq_true_eq] at hlo e0 e1 e2 e3 e4
            obtain ⟨m, rfl⟩ := Int.eq_ofNat_of_zero_le hlo.1
            have hm : m < 3 := by omega
            have HN : Hid (Left T gW gR (⟨op, (m : Int), reg, val, mode⟩ :: l.drop (j + 1)) (T.drop (k + 1))) := by rw [← drop_cons hx]; exact hn
            have hWm : gW m ≤ 48 := by have h1 := HN.out m hm; have h2 := hcw.out m; omega
            have hRm : gR m ≤ 48 := by have h1 := HN.out m hm; have h2 := hcw.out m; omega
            simp only [Value.slice.injEq] at hv3
            obtain ⟨q1, _, q3⟩ := hv3
            rw [ha3 (ne_nil hlt2)] at q1
            subst q1
            have r0 := rW.cell hm
            have r1 := rR.cell hm
            have z0 := rW.frozen m
            have z1 := rR.frozen m
            have s0 := rW.lt
            have s1 := rR.lt
            have s2 := World.block_lt_of_cell? _ _ p0
            have t0 : wr.heap.size ≠ bW := by omega
            have t1 : wr.heap.size ≠ bR := by omega
            have hjI : (j : Int) < (l.length : Int) := by omega
            have HTL : Hid (Tal w wr (.slice (some ⟨b, off, none⟩) T.length cap) bC bW bR gW gR) := htal.out
            clear hn hc3 hC ha3 q3 hx htal rW rR hlo
            by_cases k0 : op = 0
            · subst k0
              have HM : Hid (Left T (inc gW m) gR (l.drop (j + 1)) (T.drop (k + 1))) := HN.out.step rfl rfl rfl
              go_wp2_with fail
              go_roundw
              case measure => simp [intOf]; omega
              case rel => exact ⟨j + 1, _, _, by omega, by go_num, HM.out, (HTL.out.incW m).keep (below_alloc _ _)⟩
            · by_cases k1 : op = 1
              · subst k1
                have HM : Hid (Left T (inc gW m) gR (l.drop (j + 1)) (T.drop (k + 1))) := HN.out.step rfl rfl rfl
                clear k0
                go_wp2_with fail
                go_roundw
                case measure => simp [intOf]; omega
                case rel => exact ⟨j + 1, _, _, by omega, by go_num, HM.out, (HTL.out.incW m).keep (below_alloc _ _)⟩
              · by_cases k3 : op = 3
                · subst k3
                  have HM : Hid (Left T (inc gW m) (inc gR m) (l.drop (j + 1)) (T.drop (k + 1))) := HN.out.step rfl rfl rfl
                  clear k0 k1
                  go_wp2_with fail
                  go_roundw
                  case measure => simp [intOf]; omega
                  case rel => exact ⟨j + 1, _, _, by omega, by go_num, HM.out, ((HTL.out.incW m).incR m).keep (below_alloc _ _)⟩
                · by_cases k2 : op = 2
                  · subst k2
                    have HM : Hid (Left T gW (inc gR m) (l.drop (j + 1)) (T.drop (k + 1))) := HN.out.step rfl rfl rfl
                    clear k0 k1 k3
                    go_wp2_with fail
                    go_roundw
                    case measure => simp [intOf]; omega
                    case rel => exact ⟨j + 1, _, _, by omega, by go_num, HM.out, (HTL.out.incR m).keep (below_alloc _ _)⟩
                  · have HM : Hid (Left T gW gR (l.drop (j + 1)) (T.drop (k + 1))) := HN.out.step rfl (by simp [isW, k0, k1, k3]) (by simp [isR, k2, k3])
                    have b0 : (op == 0) = false := by simpa using k0
                    have b1 : (op == 1) = false := by simpa using k1
                    have b3 : (op == 3) = false := by simpa using k3
                    have b2 : (op == 2) = false := by simpa using k2
                    clear k0 k1 k2 k3
                    go_wp2_with fail
                    go_roundw
                    case measure => simp [intOf]; omega
                    case rel => exact ⟨j + 1, _, _, by omega, by go_num, HM.out, HTL.out.keep (below_alloc _ _)⟩
          · have HM : Hid (Left T gW gR [] (T.drop (k + 1))) := by have := hn.out; rw [drop_nil hlt2] at this; exact this
            have HTL := htal
            clear hn htal rW rR
            go_wp2_with fail
            go_roundw
            case measure => simp [intOf]; omega
            case rel => exact ⟨k + 1, _, _, by omega, by go_num, HM.out, HTL.out⟩
      · have HM : Hid (Left T fW fR [] []) := by have := hn.out; rw [drop_nil hlt] at this; exact this
        obtain ⟨_, _, d0, d1, f0, f1, p0, p1, _, _, n1, _, _, _, _, _⟩ := htal.out
        have m1 := World.block_lt_of_cell? _ _ d0
        clear hn
        go_wp2_with fail
        refine bodyPost_ret (v := .agg #[.slice (some ⟨bW, 0, none⟩) 3 3, .slice (some ⟨bR, 0, none⟩) 3 3]) (by simp [results, Try.results23, go_sem, *]) rfl ⟨_, _, rfl, ?_⟩
        have hI := htal.out.ints HM.out (w' := (wr.setCell ⟨w.heap.size + 1, 0, none⟩ (.slice (some ⟨bW, 0, none⟩) 3 3)).setCell ⟨w.heap.size + 1, 1, none⟩ (.slice (some ⟨bR, 0, none⟩) 3 3)) (fun b hb => by rw [Go.Deep.blk_setCell_other _ _ _ _ (by simp; omega), Go.Deep.blk_setCell_other _ _ _ _ (by simp; omega)])
        exact ⟨hI.1, hI.2, (htal.out.hb.setCell (by simp) _).setCell (by simp) _⟩

end Go.Proofs.Ytomijmikkbhgmaa
