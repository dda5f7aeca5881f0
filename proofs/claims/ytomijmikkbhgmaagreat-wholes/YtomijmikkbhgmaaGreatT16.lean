import Derived.Test.YtomijmikkbhgmaaGreatT9
import Derived.Test.YtomijmikkbhgmaaGreatT1
import Derived.Deep.CutRange
import Derived.Deep.RegionWith
namespace Go.Proofs.YtomijmikkbhgmaaGreat
open Go.RowKit

def fen1 (a b : Evt) (z : Ins) : Bool := z.op == 4 && (z.mode == 0 || (z.mode == 1 && (a.kind == 0 && b.kind == 0)) || (z.mode == 2 && (a.kind == 1 && b.kind == 1)))
/-- Does a fence between two events of a thread keep them? -/
def fenB (l : List Ins) (a b : Evt) : Bool := ((l.take b.place.toNat).drop (a.place.toNat + 1)).any (fen1 a b)

theorem take_at {α : Type} {l : List α} {n k : Nat} {x : α} (h : l[k]? = some x) (hk : k < n) : (l.take n)[k]? = some x := by rw [List.getElem?_take_of_lt hk]; exact h

theorem below_three (w : World) (o1 o2 o3 : Obj) : Below w.heap.size w (((w.alloc o1).alloc o2).alloc o3) := (below_two w o1 o2).alloc (by simp only [World.size_alloc]; omega) _

set_option maxRecDepth 20000 in
set_option maxHeartbeats 2000000 in
theorem fenced_any (T : List (List Ins)) (fa : Bool) (c : List Atm) (tv vt vc : Value) (a b : Evt) (i pa pb : Nat) (l : List Ins) (hai : a.thread = (i : Int)) (hap : a.place = (pa : Int)) (hbp : b.place = (pb : Int)) (hl : T[i]? = some l) (hpb : pb ≤ l.length) (hl12 : l.length ≤ 12) (hpa : pa ≤ 12) (w : World) (h : TestAt w tv T fa c vt vc) :
    Calls Tryz.prog 165 #[tv, evV a, evV b] w fun e w' => e = .returned (.bool (fenB l a b)) ∧ Below w.heap.size w w' := by
  obtain ⟨hv, ht, _⟩ := h
  subst hv
  obtain ⟨ht0, ao, b0, off, cap, htv, hta, _, htc⟩ := ht.opened
  subst htv
  have hil : i < T.length := (List.getElem?_eq_some_iff.1 hl).1
  obtain rfl := hta (ne_nil hil)
  obtain ⟨hbl, ao2, cap2, g0, hi2⟩ := htc i l hl
  obtain ⟨_, ao3, b3, off3, cap3, hv3, ha3, _, hc3⟩ := hi2
  simp only [Value.slice.injEq] at hv3
  obtain ⟨q1, _, _⟩ := hv3
  have HC : Hid (∀ k x, l[k]? = some x → InsC w b3 (off3 + k * 5) x) := hc3
  have HB : Hid (fenB l a b = ((l.take pb).drop (pa + 1)).any (fen1 a b)) := by show fenB l a b = _; unfold fenB; rw [hap, hbp]; rfl
  generalize fenB l a b = B at HB ⊢
  have hiI : (i : Int) < (T.length : Int) := by omega
  have hbl1 : b0 < w.heap.size + 1 := by omega
  have hbl2 : b0 < w.heap.size + 1 + 1 := by omega
  unfold evV
  rw [hai, hap, hbp]
  clear hta htc ht ht0 hc3 hl hai hap hbp
  subst q1
  go_enter Tryz.func165, Tryz.ntmps165
  go_wp2_with fail
  go_loop [8] (fun p => ∃ k : Nat, k ≤ 13 ∧ p = .int .i64 k ∧ Hid (B = ((l.take pb).drop k).any (fen1 a b))) (fun p => 13 - (intOf p).toNat)
  case atStart => exact ⟨pa + 1, by omega, by go_num, HB.out⟩
  case round =>
    clear HB
    obtain ⟨k, hk, rfl, hn⟩ := hrel
    by_cases hlt : k < pb
    · obtain ⟨z, hz⟩ := get_of_lt (l := l) (k := k) (by omega)
      have hao := ha3 (ne_nil (k := k) (by omega))
      subst hao
      have hC := HC.out k z hz
      obtain ⟨c0, _, _, _, c4⟩ := hC
      have m3 := World.block_lt_of_cell? _ _ c0
      have m31 : b3 < w.heap.size + 1 := by simp only at m3; omega
      have m32 : b3 < w.heap.size + 1 + 1 := by omega
      have HN : Hid (B = (fen1 a b z || ((l.take pb).drop (k + 1)).any (fen1 a b))) := hn.out.trans (by rw [drop_cons (take_at hz hlt), List.any_cons])
      have hkI : (k : Int) < (pb : Int) := by omega
      have hkl : (k : Int) < (l.length : Int) := by omega
      clear hn hz
      have HMf : fen1 a b z = false → Hid (B = ((l.take pb).drop (k + 1)).any (fen1 a b)) := fun h => HN.out.trans (by rw [h, Bool.false_or])
      have HMt : fen1 a b z = true → Hid (B = true) := fun h => HN.out.trans (by rw [h, Bool.true_or])
      clear HN
      cases h4 : z.op == 4
      · have HM := HMf (by unfold fen1; rw [h4, Bool.false_and])
        have h4' : (z.op != 4) = true := by simp [bne, h4]
        clear HMf HMt
        go_wp2_with fail
        go_round
        case measure => simp [intOf]; omega
        case rel => exact ⟨k + 1, by omega, by go_num, HM.out⟩
      · have h4' : (z.op != 4) = false := by simp [bne, h4]
        cases h0 : z.mode == 0
        · cases h1 : z.mode == 1
          · cases h2 : z.mode == 2
            · have HM := HMf (by unfold fen1; rw [h4, h0, h1, h2]; rfl)
              clear HMf HMt
              go_wp2_with fail
              go_round
              case measure => simp [intOf]; omega
              case rel => exact ⟨k + 1, by omega, by go_num, HM.out⟩
            · cases ka : a.kind == 1
              · have HM := HMf (by unfold fen1; rw [h4, h0, h1, h2, ka]; rfl)
                clear HMf HMt
                go_wp2_with fail
                go_round
                case measure => simp [intOf]; omega
                case rel => exact ⟨k + 1, by omega, by go_num, HM.out⟩
              · cases kb : b.kind == 1
                · have HM := HMf (by unfold fen1; rw [h4, h0, h1, h2, ka, kb]; rfl)
                  clear HMf HMt
                  go_wp2_with fail
                  go_round
                  case measure => simp [intOf]; omega
                  case rel => exact ⟨k + 1, by omega, by go_num, HM.out⟩
                · have HM := HMt (by unfold fen1; rw [h4, h0, h1, h2, ka, kb]; rfl)
                  clear HMf HMt
                  go_wp2_with fail
                  go_ret
                  exact ⟨by rw [HM.out]; rfl, below_three _ _ _ _⟩
          · cases ka : a.kind == 0
            · have HM := HMf (by unfold fen1; rw [h4, h0, h1, ka, show (z.mode == 2) = false by simp at h1 ⊢; omega]; rfl)
              clear HMf HMt
              go_wp2_with fail
              go_round
              case measure => simp [intOf]; omega
              case rel => exact ⟨k + 1, by omega, by go_num, HM.out⟩
            · cases kb : b.kind == 0
              · have HM := HMf (by unfold fen1; rw [h4, h0, h1, ka, kb, show (z.mode == 2) = false by simp at h1 ⊢; omega]; rfl)
                clear HMf HMt
                go_wp2_with fail
                go_round
                case measure => simp [intOf]; omega
                case rel => exact ⟨k + 1, by omega, by go_num, HM.out⟩
              · have HM := HMt (by unfold fen1; rw [h4, h0, h1, ka, kb]; rfl)
                clear HMf HMt
                go_wp2_with fail
                go_ret
                exact ⟨by rw [HM.out]; rfl, below_three _ _ _ _⟩
        · have HM := HMt (by unfold fen1; rw [h4, h0]; rfl)
          clear HMf HMt
          go_wp2_with fail
          go_ret
          exact ⟨by rw [HM.out]; rfl, below_three _ _ _ _⟩
    · have HM : Hid (B = false) := hn.out.trans (by rw [drop_nil (l := l.take pb) (k := k) (by rw [List.length_take]; omega)]; rfl)
      have hkI : (pb : Int) ≤ (k : Int) := by omega
      clear hn
      go_wp2_with fail
      go_ret
      exact ⟨by rw [HM.out]; rfl, below_three _ _ _ _⟩

end Go.Proofs.YtomijmikkbhgmaaGreat

namespace Go.Proofs.YtomijmikkbhgmaaGreat
open Go.RowKit

def e4V (y : Evt) : Value := .agg #[.int .i64 y.thread, .int .i64 y.place, .int .i64 y.kind, .int .i64 y.loc]

/-- An event in a block of its own. -/
structure Box4 (w : World) (b : Nat) (x : Evt) : Prop where
  c0 : w.cell? ⟨b, 0, none⟩ = some (.int .i64 x.thread)
  c1 : w.cell? ⟨b, 1, none⟩ = some (.int .i64 x.place)
  c2 : w.cell? ⟨b, 2, none⟩ = some (.int .i64 x.kind)
  c3 : w.cell? ⟨b, 3, none⟩ = some (.int .i64 x.loc)
theorem Box4.keep {w w' : World} {b : Nat} {x : Evt} (h : Box4 w b x) (hb : Below w.heap.size w w') : Box4 w' b x := ⟨keep_cell hb h.c0, keep_cell hb h.c1, keep_cell hb h.c2, keep_cell hb h.c3⟩
theorem Box4.lt {w : World} {b : Nat} {x : Evt} (h : Box4 w b x) : b < w.heap.size := World.block_lt_of_cell? w _ h.c0
theorem box4_new (w : World) (x : Evt) (t : TypeId) : Box4 (w.alloc (.cells #[.int .i64 x.thread, .int .i64 x.place, .int .i64 x.kind, .int .i64 x.loc] t)) w.heap.size x := ⟨by simp, by simp, by simp, by simp⟩
theorem box4_two (w : World) (x y : Evt) (t : TypeId) : Box4 ((w.alloc (.cells #[.int .i64 x.thread, .int .i64 x.place, .int .i64 x.kind, .int .i64 x.loc] t)).alloc (.cells #[.int .i64 y.thread, .int .i64 y.place, .int .i64 y.kind, .int .i64 y.loc] t)) w.heap.size x ∧
    Box4 ((w.alloc (.cells #[.int .i64 x.thread, .int .i64 x.place, .int .i64 x.kind, .int .i64 x.loc] t)).alloc (.cells #[.int .i64 y.thread, .int .i64 y.place, .int .i64 y.kind, .int .i64 y.loc] t)) (w.heap.size + 1) y := by
  refine ⟨(box4_new w x t).keep (below_alloc _ _), ?_⟩
  have := box4_new (w.alloc (.cells #[.int .i64 x.thread, .int .i64 x.place, .int .i64 x.kind, .int .i64 x.loc] t)) y t
  rw [World.size_alloc] at this
  exact this

theorem isAccess_any (y : Evt) (w : World) :
    Calls Tryz.prog 160 #[e4V y] w fun e w' => e = .returned (.bool (memB y.kind)) ∧ Below w.heap.size w w' := by
  unfold memB e4V
  go_enter Tryz.func160, Tryz.ntmps160
  go_wp2
  all_goals go_ret
  all_goals exact ⟨ret_bool (by first | (simp [*]; done) | (simp_all; done) | (simp_all; omega)), below_alloc _ _⟩

theorem isOfSync_any (y : Evt) (w : World) :
    Calls Tryz.prog 170 #[e4V y] w fun e w' => e = .returned (.bool (y.kind == 4 || y.kind == 5)) ∧ Below w.heap.size w w' := by
  unfold e4V
  go_enter Tryz.func170, Tryz.ntmps170
  go_wp2
  all_goals go_ret
  all_goals exact ⟨ret_bool (by first | (simp [*]; done) | (simp_all; done) | (simp_all; omega)), below_alloc _ _⟩

def swapB (a b : Evt) : Bool := a.thread == b.thread && a.place == b.place && a.kind == 0 && b.kind == 1
set_option maxHeartbeats 1000000 in
theorem isSwap_any (a b : Evt) (w : World) :
    Calls Tryz.prog 137 #[e4V a, e4V b] w fun e w' => e = .returned (.bool (swapB a b)) ∧ Below w.heap.size w w' := by
  unfold e4V swapB
  go_enter Tryz.func137, Tryz.ntmps137
  go_wp2
  all_goals go_ret
  all_goals exact ⟨ret_bool (by first | (simp [*]; done) | (simp_all; done) | (simp_all; omega)), below_two _ _ _⟩

def hldB (m a b : Int) : Bool := m == 0 || (m == 1 && (a == 0 && b == 0)) || (m == 2 && (a == 1 && b == 1))
set_option maxHeartbeats 1000000 in
theorem holds_any (m a b : Int) (w : World) :
    Calls Tryz.prog 169 #[.int .i64 m, .int .i64 a, .int .i64 b] w fun e w' => e = .returned (.bool (hldB m a b)) ∧ w' = w := by
  unfold hldB
  go_enter Tryz.func169, Tryz.ntmps169
  go_wp2
  all_goals go_ret
  all_goals exact ⟨ret_bool (by first | (simp [*]; done) | (simp_all; done) | (simp_all; omega)), rfl⟩

/-- Are they Reads or Writes of one location? -/
def sameB (a b : Evt) : Bool := memB a.kind && memB b.kind && a.loc == b.loc
set_option maxHeartbeats 1000000 in
theorem isSameLoc_any (a b : Evt) (w : World) :
    Calls Tryz.prog 135 #[e4V a, e4V b] w fun e w' => e = .returned (.bool (sameB a b)) ∧ Below w.heap.size w w' := by
  have HB : Hid (sameB a b = (memB a.kind && memB b.kind && a.loc == b.loc)) := rfl
  generalize sameB a b = B at HB ⊢
  unfold e4V
  go_enter Tryz.func135, Tryz.ntmps135
  go_wp2_with fail
  have HX := box4_two w a b 75
  have hbw := below_two w (.cells #[.int .i64 a.thread, .int .i64 a.place, .int .i64 a.kind, .int .i64 a.loc] 75) (.cells #[.int .i64 b.thread, .int .i64 b.place, .int .i64 b.kind, .int .i64 b.loc] 75)
  generalize hW : (w.alloc (.cells #[.int .i64 a.thread, .int .i64 a.place, .int .i64 a.kind, .int .i64 a.loc] 75)).alloc (.cells #[.int .i64 b.thread, .int .i64 b.place, .int .i64 b.kind, .int .i64 b.loc] 75) = W at HX hbw ⊢
  clear hW
  refine (isAccess_any a _).mono ?_
  rintro e w3 ⟨rfl, hb3⟩
  obtain ⟨a0, a1, a2, a3⟩ := HX.1.keep hb3
  obtain ⟨b0, b1, b2, b3⟩ := HX.2.keep hb3
  have hbw3 := below_more hbw hb3
  cases hm : memB a.kind
  · have HM : Hid (B = false) := HB.out.trans (by rw [hm]; rfl)
    go_wp2_with fail
    go_ret
    exact ⟨by rw [HM.out]; rfl, hbw3⟩
  · have HB2 : Hid (B = (memB b.kind && a.loc == b.loc)) := HB.out.trans (by rw [hm]; rfl)
    go_wp2_with fail
    refine (isAccess_any b _).mono ?_
    rintro e w4 ⟨rfl, hb4⟩
    have hbw4 := below_more hbw3 hb4
    clear a0 a1 a2 a3 b0 b1 b2 b3
    have a3 := ((HX.1.keep hb3).keep hb4).c3
    have b3 := ((HX.2.keep hb3).keep hb4).c3
    cases hm2 : memB b.kind
    · have HM : Hid (B = false) := HB2.out.trans (by rw [hm2]; rfl)
      go_wp2_with fail
      go_ret
      exact ⟨by rw [HM.out]; rfl, hbw4⟩
    · have HM : Hid (B = (a.loc == b.loc)) := HB2.out.trans (by rw [hm2]; rfl)
      go_wp2_with fail
      go_ret
      exact ⟨by rw [HM.out]; rfl, hbw4⟩

/-- Is one of them a mark that keeps the other one on its side? -/
def mrkB (a b : Evt) : Bool := a.kind == 2 || b.kind == 3 || (a.kind == 4 || a.kind == 5) || (b.kind == 4 || b.kind == 5)
set_option maxHeartbeats 1000000 in
theorem isMarked_any (a b : Evt) (w : World) :
    Calls Tryz.prog 163 #[e4V a, e4V b] w fun e w' => e = .returned (.bool (mrkB a b)) ∧ Below w.heap.size w w' := by
  have HB : Hid (mrkB a b = (a.kind == 2 || b.kind == 3 || (a.kind == 4 || a.kind == 5) || (b.kind == 4 || b.kind == 5))) := rfl
  generalize mrkB a b = B at HB ⊢
  generalize hsa : (a.kind == 4 || a.kind == 5) = SA at HB
  generalize hsb : (b.kind == 4 || b.kind == 5) = SB at HB
  have HSA : Hid ((a.kind == 4 || a.kind == 5) = SA ∧ (b.kind == 4 || b.kind == 5) = SB) := ⟨hsa, hsb⟩
  clear hsa hsb
  unfold e4V
  have HX := box4_two w a b 75
  have hbw := below_two w (.cells #[.int .i64 a.thread, .int .i64 a.place, .int .i64 a.kind, .int .i64 a.loc] 75) (.cells #[.int .i64 b.thread, .int .i64 b.place, .int .i64 b.kind, .int .i64 b.loc] 75)
  cases k2 : a.kind == 2
  · cases k3 : b.kind == 3
    · have HB2 : Hid (B = (SA || SB)) := HB.out.trans (by rw [k2, k3]; rfl)
      go_enter Tryz.func163, Tryz.ntmps163
      go_wp2_with fail
      generalize hW : (w.alloc (.cells #[.int .i64 a.thread, .int .i64 a.place, .int .i64 a.kind, .int .i64 a.loc] 75)).alloc (.cells #[.int .i64 b.thread, .int .i64 b.place, .int .i64 b.kind, .int .i64 b.loc] 75) = W at HX hbw ⊢
      clear hW
      refine (isOfSync_any a _).mono ?_
      rw [HSA.out.1]
      rintro e w3 ⟨rfl, hb3⟩
      have hbw3 := below_more hbw hb3
      cases SA
      · obtain ⟨b0, b1, b2, b3⟩ := HX.2.keep hb3
        go_wp2_with fail
        refine (isOfSync_any b _).mono ?_
        rw [HSA.out.2]
        rintro e w4 ⟨rfl, hb4⟩
        have hbw4 := below_more hbw3 hb4
        go_wp2_with fail
        go_ret
        exact ⟨by rw [HB2.out, Bool.false_or]; rfl, hbw4⟩
      · go_wp2_with fail
        go_ret
        exact ⟨by rw [HB2.out]; rfl, hbw3⟩
    · have HM : Hid (B = true) := HB.out.trans (by rw [k3]; simp)
      go_enter Tryz.func163, Tryz.ntmps163
      go_wp2_with fail
      go_ret
      exact ⟨by rw [HM.out]; rfl, hbw⟩
  · have HM : Hid (B = true) := HB.out.trans (by rw [k2]; simp)
    go_enter Tryz.func163, Tryz.ntmps163
    go_wp2_with fail
    go_ret
    exact ⟨by rw [HM.out]; rfl, hbw⟩

/-- Each event is of an instruction of the test. -/
structure EvIn (T : List (List Ins)) (y : Evt) (i p : Nat) (l : List Ins) : Prop where
  th : y.thread = (i : Int)
  pl : y.place = (p : Int)
  l0 : T[i]? = some l
  l1 : l[p]? = some y.ins

theorem InsAt.form {w : World} {v : Value} {l : List Ins} (h : InsAt w v l) : ∃ ao cap, v = .slice ao l.length cap := by
  obtain ⟨_, ao, b, off, cap, h⟩ := h
  exact ⟨ao, cap, h.hv⟩

set_option maxHeartbeats 1000000 in
theorem instrOf_any (T : List (List Ins)) (_hT : T.length ≤ 4) (vt : Value) (i p : Nat) (l : List Ins) (z : Ins) (_hl12 : l.length ≤ 12) (hl : T[i]? = some l) (hz : l[p]? = some z) (kd lc : Int) (w : World) (h : ThrAt w vt T) :
    Calls Tryz.prog 120 #[vt, .agg #[.int .i64 i, .int .i64 p, .int .i64 kd, .int .i64 lc]] w fun e w' => e = .returned (.agg #[.int .i64 z.op, .int .i64 z.loc, .int .i64 z.reg, .int .i64 z.val, .int .i64 z.mode]) ∧ Below w.heap.size w w' := by
  obtain ⟨_, ao, b, off, cap, hv, ha, _, hc⟩ := h
  subst hv
  have hiT : i < T.length := (List.getElem?_eq_some_iff.1 hl).1
  have hpl : p < l.length := (List.getElem?_eq_some_iff.1 hz).1
  obtain ⟨u, c0, _, ao2, b2, off2, cap2, hv2, ha2, _, hc2⟩ := hc i l hl
  subst hv2
  rw [Nat.mul_one] at c0
  obtain rfl := ha (ne_nil hiT)
  obtain rfl := ha2 (ne_nil hpl)
  obtain ⟨d0, d1, d2, d3, d4⟩ := hc2 p z hz
  have m0 := World.block_lt_of_cell? _ _ c0
  have m1 := World.block_lt_of_cell? _ _ d0
  have hiI : (i : Int) < (T.length : Int) := by omega
  have hpI : (p : Int) < (l.length : Int) := by omega
  simp only at m0 m1
  clear hc hc2 ha ha2 hl hz
  go_enter Tryz.func120, Tryz.ntmps120
  go_wp2_with fail
  exact bodyPost_ret (v := .agg #[.int .i64 z.op, .int .i64 z.loc, .int .i64 z.reg, .int .i64 z.val, .int .i64 z.mode]) (by simp [results, Tryz.results120, go_sem, *]) rfl ⟨rfl, below_two _ _ _⟩

end Go.Proofs.YtomijmikkbhgmaaGreat

namespace Go.Proofs.YtomijmikkbhgmaaGreat
open Go.RowKit

/-- A test that may be: few threads, short ones. -/
structure Short (T : List (List Ins)) : Prop where
  t4 : T.length ≤ 4
  l12 : ∀ l ∈ T, l.length ≤ 12

theorem instrEv_any (T : List (List Ins)) (hS : Short T) (vt : Value) (y : Evt) (i p : Nat) (l : List Ins) (h : EvIn T y i p l) (w : World) (ht : ThrAt w vt T) :
    Calls Tryz.prog 120 #[vt, e4V y] w fun e w' => e = .returned (.agg #[.int .i64 y.ins.op, .int .i64 y.ins.loc, .int .i64 y.ins.reg, .int .i64 y.ins.val, .int .i64 y.ins.mode]) ∧ Below w.heap.size w w' := by
  have := instrOf_any T hS.t4 vt i p l y.ins (hS.l12 l (List.mem_of_getElem? h.l0)) h.l0 h.l1 y.kind y.loc w ht
  unfold e4V
  rw [h.th, h.pl]
  exact this

def modB (a b : Evt) : Bool := (a.kind == 0 && a.ins.mode == 1) || (b.kind == 1 && b.ins.mode == 2)

set_option maxHeartbeats 2000000 in
theorem isModed_any (T : List (List Ins)) (hS : Short T) (vt : Value) (a b : Evt) (ia pa ib pb : Nat) (la lb : List Ins) (ha : EvIn T a ia pa la) (hb : EvIn T b ib pb lb) (w : World) (ht : ThrAt w vt T) :
    Calls Tryz.prog 162 #[vt, e4V a, e4V b] w fun e w' => e = .returned (.bool (modB a b)) ∧ Below w.heap.size w w' := by
  have HT : Hid (ThrAt w vt T ∧ EvIn T a ia pa la ∧ EvIn T b ib pb lb ∧ Short T) := ⟨ht, ha, hb, hS⟩
  have HB : Hid (modB a b = ((a.kind == 0 && a.ins.mode == 1) || (b.kind == 1 && b.ins.mode == 2))) := rfl
  generalize modB a b = B at HB ⊢
  obtain ⟨_, aoT, bT, offT, capT, hvT, _⟩ := ht
  subst hvT
  clear ha hb hS
  unfold e4V
  have HX := box4_two w a b 75
  have hbw := below_two w (.cells #[.int .i64 a.thread, .int .i64 a.place, .int .i64 a.kind, .int .i64 a.loc] 75) (.cells #[.int .i64 b.thread, .int .i64 b.place, .int .i64 b.kind, .int .i64 b.loc] 75)
  go_enter Tryz.func162, Tryz.ntmps162
  go_wp2_with fail
  generalize hW : (w.alloc (.cells #[.int .i64 a.thread, .int .i64 a.place, .int .i64 a.kind, .int .i64 a.loc] 75)).alloc (.cells #[.int .i64 b.thread, .int .i64 b.place, .int .i64 b.kind, .int .i64 b.loc] 75) = W at HX hbw ⊢
  clear hW
  refine (instrEv_any T HT.out.2.2.2 _ a ia pa la HT.out.2.1 W (HT.out.1.keep hbw)).mono ?_
  rintro e w3 ⟨rfl, hb3⟩
  have hbw3 := below_more hbw hb3
  obtain ⟨a0, a1, a2, a3⟩ := HX.1.keep hb3
  obtain ⟨b0, b1, b2, b3⟩ := HX.2.keep hb3
  have m0 := (HX.1.keep hb3).lt
  have m1 := (HX.2.keep hb3).lt
  have hgo : Hid (∀ w5, Below w.heap.size w w5 → Calls Tryz.prog 120 #[.slice aoT T.length capT, e4V b] w5 fun e w' => e = .returned (.agg #[.int .i64 b.ins.op, .int .i64 b.ins.loc, .int .i64 b.ins.reg, .int .i64 b.ins.val, .int .i64 b.ins.mode]) ∧ Below w5.heap.size w5 w') :=
    fun w5 hb5 => instrEv_any T HT.out.2.2.2 _ b ib pb lb HT.out.2.2.1 w5 (HT.out.1.keep hb5)
  cases k0 : a.kind == 0
  all_goals cases m1' : a.ins.mode == 1
  case true.true =>
    have HM : Hid (B = true) := HB.out.trans (by rw [k0, m1']; rfl)
    go_wp2_with fail
    go_ret
    exact ⟨by rw [HM.out]; rfl, hbw3.alloc hbw3.size _⟩
  all_goals
    have HB2 : Hid (B = (b.kind == 1 && b.ins.mode == 2)) := HB.out.trans (by rw [k0, m1']; rfl)
    go_wp2_with fail
    refine (hgo.out _ (hbw3.alloc hbw3.size _)).mono ?_
    rintro e w5 ⟨rfl, hb5⟩
    have hbw5 := below_more (hbw3.alloc hbw3.size (.cells #[.int .i64 a.ins.op, .int .i64 a.ins.loc, .int .i64 a.ins.reg, .int .i64 a.ins.val, .int .i64 a.ins.mode] 48)) hb5
    obtain ⟨d0, d1, d2, d3⟩ := ((HX.2.keep hb3).keep (below_alloc w3 (.cells #[.int .i64 a.ins.op, .int .i64 a.ins.loc, .int .i64 a.ins.reg, .int .i64 a.ins.val, .int .i64 a.ins.mode] 48))).keep hb5
    have m5 := World.block_lt_of_cell? _ _ d0
    simp only at m5
    cases k1 : b.kind == 1
    · have HM : Hid (B = false) := HB2.out.trans (by rw [k1]; rfl)
      go_wp2_with fail
      go_ret
      exact ⟨by rw [HM.out]; rfl, hbw5.alloc hbw5.size _⟩
    · have HM : Hid (B = (b.ins.mode == 2)) := HB2.out.trans (by rw [k1]; rfl)
      go_wp2_with fail
      go_ret
      exact ⟨by rw [HM.out]; rfl, hbw5.alloc hbw5.size _⟩

theorem fen1_eq (a b : Evt) (z : Ins) : fen1 a b z = (z.op == 4 && hldB z.mode a.kind b.kind) := rfl

set_option maxHeartbeats 2000000 in
theorem isFenced_any (T : List (List Ins)) (hS : Short T) (vt : Value) (a b : Evt) (i pa pb : Nat) (l : List Ins) (hai : a.thread = (i : Int)) (hap : a.place = (pa : Int)) (hbp : b.place = (pb : Int)) (hl : T[i]? = some l) (hpa : pa ≤ l.length) (hpb : pb ≤ l.length) (w : World) (ht : ThrAt w vt T) :
    Calls Tryz.prog 161 #[vt, e4V a, e4V b] w fun e w' => e = .returned (.bool (fenB l a b)) ∧ Below w.heap.size w w' := by
  have hl12 := hS.l12 l (List.mem_of_getElem? hl)
  have HT : Hid (ThrAt w vt T ∧ Short T ∧ T[i]? = some l) := ⟨ht, hS, hl⟩
  have HB : Hid (fenB l a b = ((l.take pb).drop (pa + 1)).any (fen1 a b)) := by show fenB l a b = _; unfold fenB; rw [hap, hbp]; rfl
  generalize fenB l a b = B at HB ⊢
  obtain ⟨_, aoT, bT, offT, capT, hvT, _⟩ := ht
  subst hvT
  have HE : Hid (a.thread = (i : Int) ∧ a.place = (pa : Int) ∧ b.place = (pb : Int)) := ⟨hai, hap, hbp⟩
  clear hS hl hai hap hbp
  unfold e4V
  have HX := box4_two w a b 75
  have hbw := below_two w (.cells #[.int .i64 a.thread, .int .i64 a.place, .int .i64 a.kind, .int .i64 a.loc] 75) (.cells #[.int .i64 b.thread, .int .i64 b.place, .int .i64 b.kind, .int .i64 b.loc] 75)
  have hW : ∃ W, (w.alloc (.cells #[.int .i64 a.thread, .int .i64 a.place, .int .i64 a.kind, .int .i64 a.loc] 75)).alloc (.cells #[.int .i64 b.thread, .int .i64 b.place, .int .i64 b.kind, .int .i64 b.loc] 75) = W := ⟨_, rfl⟩
  go_enter Tryz.func161, Tryz.ntmps161
  go_upto_region 1 with fail
  obtain ⟨W, hW⟩ := hW
  rw [hW] at HX hbw ⊢
  clear hW
  have HXX : Hid (Box4 W w.heap.size a ∧ Box4 W (w.heap.size + 1) b) := HX
  obtain ⟨⟨a0, a1, a2, a3⟩, ⟨b0, b1, b2, b3⟩⟩ := HX
  rw [HE.out.2.1] at a1
  go_wp2_with fail
  clear a0 a1 a2 a3 b0 b1 b2 b3
  go_loopw [7] (fun i' wr => ∃ k : Nat, pa + 1 ≤ k ∧ k ≤ 13 ∧ i' = .int .i64 k ∧ Hid (B = ((l.take pb).drop k).any (fen1 a b)) ∧ Below W.heap.size W wr) (fun i' _ => 13 - (intOf i').toNat)
  case atStart => exact ⟨pa + 1, Nat.le_refl _, by omega, by go_num, HB.out, Below.refl _ _⟩
  case round =>
    clear HB
    obtain ⟨k, hk1, hk2, rfl, hn, hbr⟩ := hrel
    obtain ⟨a0, a1, a2, a3⟩ := HXX.out.1.keep hbr
    obtain ⟨b0, b1, b2, b3⟩ := HXX.out.2.keep hbr
    rw [HE.out.1] at a0
    rw [HE.out.2.2] at b1
    by_cases hlt : k < pb
    · obtain ⟨z, hz⟩ := get_of_lt (l := l) (k := k) (by omega)
      have HN : Hid (B = ((z.op == 4 && hldB z.mode a.kind b.kind) || ((l.take pb).drop (k + 1)).any (fen1 a b))) := hn.out.trans (by rw [drop_cons (take_at hz hlt), List.any_cons, fen1_eq])
      have HC : Hid (∀ w5, Below w.heap.size w w5 → Calls Tryz.prog 120 #[.slice aoT T.length capT, .agg #[.int .i64 i, .int .i64 k, .int .i64 0, .int .i64 0]] w5 fun e w' => e = .returned (.agg #[.int .i64 z.op, .int .i64 z.loc, .int .i64 z.reg, .int .i64 z.val, .int .i64 z.mode]) ∧ Below w5.heap.size w5 w') :=
        fun w5 hb5 => instrOf_any T HT.out.2.1.t4 _ i k l z (HT.out.2.1.l12 l (List.mem_of_getElem? HT.out.2.2)) HT.out.2.2 hz 0 0 w5 (HT.out.1.keep hb5)
      have hkI : (k : Int) < (pb : Int) := by omega
      have hbwr := below_more hbw hbr
      clear hn hz
      go_wp2_with fail
      refine (HC.out _ hbwr).mono ?_
      rintro e w5 ⟨rfl, hb5⟩
      have hb6 := below_more hbr hb5
      clear a0 a1 a2 a3 b0 b1 b2 b3
      obtain ⟨a0, a1, a2, a3⟩ := HXX.out.1.keep hb6
      obtain ⟨b0, b1, b2, b3⟩ := HXX.out.2.keep hb6
      rw [HE.out.2.2] at b1
      have m5 := World.block_lt_of_cell? _ _ a0
      have m6 := World.block_lt_of_cell? _ _ b0
      simp only at m5 m6
      cases hz4 : z.op == 4
      · have HM : Hid (B = ((l.take pb).drop (k + 1)).any (fen1 a b)) := HN.out.trans (by rw [hz4]; rfl)
        clear HN
        go_wp2_with fail
        go_roundw
        case measure => simp [intOf]; omega
        case rel => exact ⟨k + 1, by omega, by omega, by go_num, HM.out, hb6.alloc hb6.size _⟩
      · generalize hh : hldB z.mode a.kind b.kind = Hb at HN
        have HH : Hid (hldB z.mode a.kind b.kind = Hb) := hh
        have HN2 : Hid (B = (Hb || ((l.take pb).drop (k + 1)).any (fen1 a b))) := HN.out.trans (by rw [hz4]; rfl)
        clear hh HN
        go_wp2_with fail
        refine (holds_any z.mode a.kind b.kind _).mono ?_
        rw [HH.out]
        rintro e w7 ⟨rfl, rfl⟩
        cases Hb
        · have HM : Hid (B = ((l.take pb).drop (k + 1)).any (fen1 a b)) := HN2.out.trans (by rfl)
          go_wp2_with fail
          go_roundw
          case measure => simp [intOf]; omega
          case rel => exact ⟨k + 1, by omega, by omega, by go_num, HM.out, hb6.alloc hb6.size _⟩
        · have HM : Hid (B = true) := HN2.out.trans (by rfl)
          go_wp2_with fail
          go_ret
          exact ⟨by rw [HM.out]; rfl, below_more hbw (hb6.alloc hb6.size _)⟩
    · have HM : Hid (B = false) := hn.out.trans (by rw [drop_nil (l := l.take pb) (k := k) (by rw [List.length_take]; omega)]; rfl)
      have hkI : (pb : Int) ≤ (k : Int) := by omega
      clear hn
      go_wp2_with fail
      go_ret
      exact ⟨by rw [HM.out]; rfl, below_more hbw hbr⟩

end Go.Proofs.YtomijmikkbhgmaaGreat
