import Derived.Test.YtomijmikkbhgmaaT11
import Derived.Deep.QuietTactic
import Derived.BigQuiet
import Derived.Test.YtomijmikkbhgmaaLm
namespace Go.Proofs.Ytomijmikkbhgmaa
open Go.RowKit

/-- Find's own memory: the boxed test, the result, the fault so far. -/
structure FindSt (w w' : World) (vt vc : Value) (fa : Bool) (B : Nat) (e p : Int) : Prop where
  below : Below w.heap.size w w'
  b0 : w'.cell? ⟨w.heap.size, 0, none⟩ = some vt
  b1 : w'.cell? ⟨w.heap.size, 1, none⟩ = some (.bool fa)
  b2 : w'.cell? ⟨w.heap.size, 2, none⟩ = some vc
  r0 : w'.cell? ⟨w.heap.size + 1, 0, none⟩ = some (.int .i64 0)
  r1 : w'.cell? ⟨w.heap.size + 1, 1, none⟩ = some (.int .i64 0)
  q0 : w'.frozen? ⟨w.heap.size + 1, 0, none⟩ = false
  q1 : w'.frozen? ⟨w.heap.size + 1, 1, none⟩ = false
  f0 : w'.cell? ⟨B, 0, none⟩ = some (.int .i64 e)
  f1 : w'.cell? ⟨B, 1, none⟩ = some (.int .i64 p)
  z0 : w'.frozen? ⟨B, 0, none⟩ = false
  z1 : w'.frozen? ⟨B, 1, none⟩ = false
  lt : w.heap.size + 1 < B
  lb : B < w'.heap.size

theorem keep_frozen {w w' : World} (hb : Below w.heap.size w w') {b off : Nat} {v : Value} (h : w.cell? ⟨b, off, none⟩ = some v) : w'.frozen? ⟨b, off, none⟩ = w.frozen? ⟨b, off, none⟩ :=
  hb.frozen (p := ⟨b, off, none⟩) (World.block_lt_of_cell? w _ h)

theorem FindSt.keep {w w' w'' : World} {vt vc : Value} {fa : Bool} {B : Nat} {e p : Int} (h : FindSt w w' vt vc fa B e p) (hb : Below w'.heap.size w' w'') : FindSt w w'' vt vc fa B e p :=
  ⟨below_more h.below hb, keep_cell hb h.b0, keep_cell hb h.b1, keep_cell hb h.b2, keep_cell hb h.r0, keep_cell hb h.r1, (keep_frozen hb h.r0).trans h.q0, (keep_frozen hb h.r1).trans h.q1, keep_cell hb h.f0, keep_cell hb h.f1,
    (keep_frozen hb h.f0).trans h.z0, (keep_frozen hb h.f1).trans h.z1, h.lt, Nat.lt_of_lt_of_le h.lb hb.size⟩

theorem FindSt.init {w w3 : World} {vt vc : Value} {fa : Bool} {t u : TypeId} (hb : Below (w.heap.size + 2) ((w.alloc (.cells #[vt, .bool fa, vc] t)).alloc (.cells #[.int .i64 0, .int .i64 0] u)) w3) (e p : Int) :
    FindSt w (w3.alloc (.cells #[.int .i64 e, .int .i64 p] u)) vt vc fa w3.heap.size e p := by
  obtain ⟨g0, g1, g2, d0, d1, f0, f1, s2, s3⟩ := own5 hb
  have k := below_alloc w3 (.cells #[.int .i64 e, .int .i64 p] u)
  exact ⟨below_more ((below_two _ _ _).trans (hb.mono (by omega))) k, keep_cell k g0, keep_cell k g1, keep_cell k g2, keep_cell k d0, keep_cell k d1, (keep_frozen k d0).trans f0, (keep_frozen k d1).trans f1, by simp, by simp, by simp, by simp, s3, by simp⟩

theorem cell_set {w : World} {p : Addr} {u v : Value} {b o : Nat} (h : w.cell? ⟨b, o, none⟩ = some v) (hne : b ≠ p.block) : (w.setCell p u).cell? ⟨b, o, none⟩ = some v :=
  (World.cell?_of_block (w := w) (Below.heap_setCell _ _ _ _ hne)).trans h
theorem frozen_set {w : World} {p : Addr} {u : Value} {b o : Nat} (hne : b ≠ p.block) : (w.setCell p u).frozen? ⟨b, o, none⟩ = w.frozen? ⟨b, o, none⟩ :=
  World.frozen?_of_block (w := w) (Below.heap_setCell _ _ _ _ hne)

theorem FindSt.set {w w' : World} {vt vc : Value} {fa : Bool} {B : Nat} {e p : Int} (h : FindSt w w' vt vc fa B e p) (e' p' : Int) :
    FindSt w ((w'.setCell ⟨B, 0, none⟩ (.int .i64 e')).setCell ⟨B, 1, none⟩ (.int .i64 p')) vt vc fa B e' p' := by
  have h1 := h.lt
  have n0 : w.heap.size ≠ B := by omega
  have n1 : w.heap.size + 1 ≠ B := by omega
  have f0 := h.f0; have f1 := h.f1; have z0 := h.z0; have z1 := h.z1
  refine ⟨(h.below.setCell (by simp; omega) _).setCell (by simp; omega) _, cell_set (cell_set h.b0 n0) n0, cell_set (cell_set h.b1 n0) n0, cell_set (cell_set h.b2 n0) n0, cell_set (cell_set h.r0 n1) n1, cell_set (cell_set h.r1 n1) n1,
    ((frozen_set n1).trans (frozen_set n1)).trans h.q0, ((frozen_set n1).trans (frozen_set n1)).trans h.q1, ?_, ?_, ?_, ?_, h.lt, by simpa [World.setCell] using h.lb⟩
  all_goals simp [go_sem, *]

theorem chk_size {T : List (List Ins)} {c : List Atm} (h : sizeB T c = false) : chk T c = (1, 0) := by unfold chk; rw [if_neg (by simp [h])]
theorem chk_ins {T : List (List Ins)} {c : List Atm} {p : Nat} (h : sizeB T c = true) (hi : insF T 0 = some p) : chk T c = (2, (p : Int)) := by unfold chk; rw [if_pos h, hi]
theorem chk_nst {T : List (List Ins)} {c : List Atm} {p : Int} (h : sizeB T c = true) (hi : insF T 0 = none) (hn : nstF T 0 = some p) : chk T c = (3, p) := by unfold chk; rw [if_pos h, hi, hn]
theorem chk_atm {T : List (List Ins)} {c : List Atm} {p : Nat} (h : sizeB T c = true) (hi : insF T 0 = none) (hn : nstF T 0 = none) (ha : atmF c 0 T.length = some p) : chk T c = (4, (p : Int)) := by unfold chk; rw [if_pos h, hi, hn, ha]
theorem chk_many {T : List (List Ins)} {c : List Atm} (h : sizeB T c = true) (hi : insF T 0 = none) (hn : nstF T 0 = none) (ha : atmF c 0 T.length = none) (hm : manyB T = true) : chk T c = (5, 0) := by unfold chk; rw [if_pos h, hi, hn, ha, if_pos hm]
theorem chk_ok {T : List (List Ins)} {c : List Atm} (h : sizeB T c = true) (hi : insF T 0 = none) (hn : nstF T 0 = none) (ha : atmF c 0 T.length = none) (hm : manyB T = false) : chk T c = (0, 0) := by unfold chk; rw [if_pos h, hi, hn, ha, if_neg (by simp [hm])]

theorem sizeB_parts {T : List (List Ins)} {c : List Atm} (h : sizeB T c = true) : T.length ≤ 4 ∧ lensB T = true ∧ c.length ≤ 6 := by
  unfold sizeB at h
  simp only [Bool.and_eq_true, decide_eq_true_eq] at h
  exact ⟨h.1.1.2, h.1.2, h.2⟩

theorem below_set {w w' : World} {b o : Nat} {u : Value} (h : Below w.heap.size w w') (hb : w.heap.size ≤ b) : Below w.heap.size w (w'.setCell ⟨b, o, none⟩ u) := h.setCell hb u

def fault2 (q : Int × Int) : Value := .agg #[.int .i64 q.1, .int .i64 q.2]

set_option maxHeartbeats 4000000 in
theorem find_any (T : List (List Ins)) (fa : Bool) (c : List Atm) (v vt vc : Value) (w : World) (h : TestAt w v T fa c vt vc) :
    Calls Try.prog 32 #[v] w fun e w' => e = .returned (fault2 (chk T c)) ∧ Below w.heap.size w w' := by
  have HT : Hid (TestAt w v T fa c vt vc) := h
  obtain ⟨hv, _, _⟩ := h
  subst hv
  generalize hq : chk T c = q
  have HQ : Hid (chk T c = q) := hq
  clear hq
  go_enter Try.func32, Try.ntmps32
  go_wp2_with fail
  refine (findSize_any T fa c _ vt vc _ (HT.out.keep (below_two _ _ _))).mono ?_
  rintro e w3 ⟨rfl, hb3⟩
  simp only [World.size_alloc] at hb3
  obtain ⟨g0, g1, g2, d0, d1, f0, f1, s2, s3⟩ := own5 hb3
  have HB3 : Hid (Below (w.heap.size + 2) ((w.alloc (.cells #[vt, .bool fa, vc] 25)).alloc (.cells #[.int .i64 0, .int .i64 0] 61)) w3) := hb3
  clear hb3
  cases hs : sizeB T c
  · have HF : Hid (q = (1, 0)) := HQ.out.symm.trans (chk_size hs)
    clear HQ hs
    rw [show faultS false = .agg #[.int .i64 1, .int .i64 0] from rfl]
    go_wp2_with fail
    exact bodyPost_ret (v := .agg #[.int .i64 1, .int .i64 0]) (by simp [results, Try.results32, go_sem, *]) rfl
      ⟨by rw [HF.out]; rfl, (below_set (below_set ((below_two _ _ _).trans (HB3.out.mono (by omega))) (by omega)) (by omega)).alloc (by simp [World.setCell]; omega) _⟩
  · have HSB : Hid (T.length ≤ 4 ∧ lensB T = true ∧ c.length ≤ 6) := sizeB_parts hs
    have HSZ : Hid (sizeB T c = true) := hs
    clear hs
    rw [show faultS true = .agg #[.int .i64 0, .int .i64 0] from rfl]
    go_wp2_with fail
    have S4 := FindSt.init HB3.out 0 0
    refine (findInstr_any T vt _ (HT.out.ht.keep S4.below) HSB.out.1 HSB.out.2.1).mono ?_
    rintro e w5 ⟨rfl, hb5⟩
    have S5 := S4.keep hb5
    clear S4 hb5 g0 g1 g2 d0 d1 f0 f1 HB3
    generalize w3.heap.size = B at S5 ⊢
    have HS5 : Hid (FindSt w w5 vt vc fa B 0 0) := S5
    obtain ⟨-, b0, b1, b2, r0, r1, q0, q1, y0, y1, z0, z1, l1, l2⟩ := S5
    cases hins : insF T 0 with
    | some p =>
      have HF : Hid (q = (2, (p : Int))) := HQ.out.symm.trans (chk_ins HSZ.out hins)
      clear HQ hins
      rw [show faultO 2 (some p) = .agg #[.int .i64 2, .int .i64 p] from rfl]
      go_wp2_with fail
      exact bodyPost_ret (v := .agg #[.int .i64 2, .int .i64 p]) (by simp [results, Try.results32, go_sem, *]) rfl
        ⟨by rw [HF.out]; rfl, below_set (below_set (below_set (below_set HS5.out.below (by omega)) (by omega)) (by omega)) (by omega)⟩
    | none =>
      have HIN : Hid (insF T 0 = none) := hins
      clear hins
      rw [show faultO 2 none = .agg #[.int .i64 0, .int .i64 0] from rfl]
      go_wp2_with fail
      have S6 := HS5.out.set 0 0
      refine (findNest_any T vt _ (HT.out.ht.keep S6.below) HSB.out.1 HSB.out.2.1).mono ?_
      rintro e w7 ⟨rfl, hb7⟩
      have S7 := S6.keep hb7
      clear S6 hb7 b0 b1 b2 r0 r1 q0 q1 y0 y1 z0 z1 l1 l2 HS5
      have HS7 : Hid (FindSt w w7 vt vc fa B 0 0) := S7
      obtain ⟨-, b0, b1, b2, r0, r1, q0, q1, y0, y1, z0, z1, l1, l2⟩ := S7
      cases hnst : nstF T 0 with
      | some p =>
        have HF : Hid (q = (3, p)) := HQ.out.symm.trans (chk_nst HSZ.out HIN.out hnst)
        clear HQ hnst
        rw [show faultI 3 (some p) = .agg #[.int .i64 3, .int .i64 p] from rfl]
        go_wp2_with fail
        exact bodyPost_ret (v := .agg #[.int .i64 3, .int .i64 p]) (by simp [results, Try.results32, go_sem, *]) rfl
          ⟨by rw [HF.out]; rfl, below_set (below_set (below_set (below_set HS7.out.below (by omega)) (by omega)) (by omega)) (by omega)⟩
      | none =>
        have HNS : Hid (nstF T 0 = none) := hnst
        clear hnst
        rw [show faultI 3 none = .agg #[.int .i64 0, .int .i64 0] from rfl]
        go_wp2_with fail
        have S8 := HS7.out.set 0 0
        refine (findCond_any T fa c _ vt vc _ (HT.out.keep S8.below) HSB.out.1 HSB.out.2.2).mono ?_
        rintro e w9 ⟨rfl, hb9⟩
        have S9 := S8.keep hb9
        clear S8 hb9 b0 b1 b2 r0 r1 q0 q1 y0 y1 z0 z1 l1 l2 HS7
        have HS9 : Hid (FindSt w w9 vt vc fa B 0 0) := S9
        obtain ⟨-, b0, b1, b2, r0, r1, q0, q1, y0, y1, z0, z1, l1, l2⟩ := S9
        cases hat : atmF c 0 T.length with
        | some p =>
          have HF : Hid (q = (4, (p : Int))) := HQ.out.symm.trans (chk_atm HSZ.out HIN.out HNS.out hat)
          clear HQ hat
          rw [show faultO 4 (some p) = .agg #[.int .i64 4, .int .i64 p] from rfl]
          go_wp2_with fail
          exact bodyPost_ret (v := .agg #[.int .i64 4, .int .i64 p]) (by simp [results, Try.results32, go_sem, *]) rfl
            ⟨by rw [HF.out]; rfl, below_set (below_set (below_set (below_set HS9.out.below (by omega)) (by omega)) (by omega)) (by omega)⟩
        | none =>
          have HAT : Hid (atmF c 0 T.length = none) := hat
          clear hat
          rw [show faultO 4 none = .agg #[.int .i64 0, .int .i64 0] from rfl]
          go_wp2_with fail
          have S10 := HS9.out.set 0 0
          refine (findMany_any T vt _ (HT.out.ht.keep S10.below) HSB.out.1 HSB.out.2.1).mono ?_
          rintro e w11 ⟨rfl, hb11⟩
          have S11 := S10.keep hb11
          clear S10 hb11 b0 b1 b2 r0 r1 q0 q1 y0 y1 z0 z1 l1 l2 HS9
          have HS11 : Hid (FindSt w w11 vt vc fa B 0 0) := S11
          obtain ⟨-, b0, b1, b2, r0, r1, q0, q1, y0, y1, z0, z1, l1, l2⟩ := S11
          cases hmn : manyB T
          · have HF : Hid (q = (0, 0)) := HQ.out.symm.trans (chk_ok HSZ.out HIN.out HNS.out HAT.out hmn)
            clear HQ hmn
            rw [show faultM false = .agg #[.int .i64 0, .int .i64 0] from rfl]
            go_wp2_with fail
            exact bodyPost_ret (v := .agg #[.int .i64 0, .int .i64 0]) (by simp [results, Try.results32, go_sem, *]) rfl
              ⟨by rw [HF.out]; rfl, below_set (below_set (below_set (below_set HS11.out.below (by omega)) (by omega)) (by omega)) (by omega)⟩
          · have HF : Hid (q = (5, 0)) := HQ.out.symm.trans (chk_many HSZ.out HIN.out HNS.out HAT.out hmn)
            clear HQ hmn
            rw [show faultM true = .agg #[.int .i64 5, .int .i64 0] from rfl]
            go_wp2_with fail
            exact bodyPost_ret (v := .agg #[.int .i64 5, .int .i64 0]) (by simp [results, Try.results32, go_sem, *]) rfl
              ⟨by rw [HF.out]; rfl, below_set (below_set (below_set (below_set HS11.out.below (by omega)) (by omega)) (by omega)) (by omega)⟩

end Go.Proofs.Ytomijmikkbhgmaa

namespace Go.Proofs.Ytomijmikkbhgmaa
open Go.RowKit

set_option maxHeartbeats 1000000 in
theorem check_any (T : List (List Ins)) (fa : Bool) (c : List Atm) (v vt vc : Value) (w : World) (h : TestAt w v T fa c vt vc) :
    Calls Try.prog 9 #[v] w fun e w' => e = .returned (.tuple #[.int .i64 (chk T c).1, .int .i64 (chk T c).2]) ∧ Below w.heap.size w w' := by
  have HT : Hid (TestAt w v T fa c vt vc) := h
  obtain ⟨hv, _, _⟩ := h
  subst hv
  generalize hq : chk T c = q
  have HQ : Hid (chk T c = q) := hq
  clear hq
  go_enter Try.func9, Try.ntmps9
  go_wp2_with (go_at_call 32; refine (find_any T fa c _ vt vc _ (HT.out.keep (below_alloc _ _))).mono ?_; rw [HQ.out]; rintro e w3 ⟨rfl, hb3⟩; unfold fault2)
  go_quiet (fail)
  go_wp2_with fail
  go_ret2
  exact ⟨rfl, below_drewN ((below_more (below_alloc _ _) hb3).alloc (by have := hb3.size; simp at this; omega) _) _⟩

end Go.Proofs.Ytomijmikkbhgmaa

namespace Go.Proofs.Ytomijmikkbhgmaa
open Go.RowKit

theorem cntO_cons (op : Int) (l : List Ins) (T : List (List Ins)) : cntO op (l :: T) = (l.filter fun x => x.op == op).length + cntO op T := rfl

set_option maxHeartbeats 2000000 in
theorem count_any (T : List (List Ins)) (fa : Bool) (c : List Atm) (v vt vc : Value) (w : World) (h : TestAt w v T fa c vt vc) (h2 : T.length ≤ 4) (hL : lensB T = true) (op : Int) :
    Calls Try.prog 37 #[v, .int .i64 op] w fun e w' => e = .returned (.int .i64 (cntO op T : Nat)) ∧ Below w.heap.size w w' := by
  obtain ⟨hv, ht, ⟨hc0, ao', b', off', cap', hcv, _, _, _⟩⟩ := h
  obtain ⟨ht0, ao, b, off, cap, htv, hta, _, htc⟩ := ht.opened
  subst hv htv hcv
  generalize hN : cntO op T = N
  have HN0 : Hid (cntO op T = N) := hN
  clear hN
  go_enter Try.func37, Try.ntmps37
  go_wp2_with fail
  have hbox := boxed w (.slice ao T.length cap) (.slice ao' c.length cap') fa 25
  generalize w.alloc (.cells #[.slice ao T.length cap, .bool fa, .slice ao' c.length cap'] 25) = W at hbox ⊢
  obtain ⟨hbW, _, g0, _, _⟩ := hbox
  go_loop [5, 6] (fun u i => ∃ (k n : Nat), k ≤ T.length ∧ i = .int .i64 k ∧ u = .int .i64 n ∧ n ≤ 12 * k ∧ Hid (N = n + cntO op (T.drop k))) (fun _ i => T.length - (intOf i).toNat)
  case atStart => exact ⟨0, 0, Nat.zero_le _, rfl, rfl, Nat.le_refl _, by rw [List.drop_zero, HN0.out]; exact (Nat.zero_add _).symm⟩
  case round =>
    obtain ⟨k, n, hk, rfl, rfl, hnk, hn⟩ := hrel
    by_cases hlt : k < T.length
    · obtain ⟨l, hx⟩ := get_of_lt hlt
      obtain ⟨hbl, ao2, cap2, c0, hil⟩ := htc k l hx
      obtain rfl := hta (ne_nil hlt)
      have hl12 := lensB_get hL hx
      have HN : Hid (N = n + ((l.filter fun x => x.op == op).length + cntO op (T.drop (k + 1)))) := hn.out.trans (by rw [drop_cons hx]; rfl)
      have c1 := keep_cell hbW c0
      have HIL : Hid (InsAt W (.slice ao2 l.length cap2) l) := hil.keep hbW
      have hbl2 := World.block_lt_of_cell? _ _ c1
      clear hx hn hil ht c0 hL htc hta HN0
      generalize hR : cntO op (T.drop (k + 1)) = R at HN
      have HR : Hid (cntO op (T.drop (k + 1)) = R) := hR
      clear hR
      go_wp2_with fail
      go_loop [5, 7] (fun u i => ∃ (j n : Nat), j ≤ l.length ∧ i = .int .i64 j ∧ u = .int .i64 n ∧ n ≤ 12 * k + j ∧ Hid (N = n + (((l.drop j).filter fun x => x.op == op).length + R))) (fun _ i => l.length - (intOf i).toNat)
      case atStart => exact ⟨0, n, Nat.zero_le _, rfl, rfl, by omega, HN.out⟩
      case round =>
        clear HN hnk
        obtain ⟨j, n2, hj, rfl, rfl, hnj, hn⟩ := hrel
        by_cases hlt2 : j < l.length
        · obtain ⟨x, hx⟩ := get_of_lt hlt2
          obtain ⟨_, ao3, b3, off3, cap3, hv3, ha3, _, hc3⟩ := HIL.out
          have hC := hc3 j x hx
          have hbl3 := hC.lt
          have d0 := hC.c0
          rw [drop_cons hx] at hn
          have HN2 : Hid (N = n2 + (((x :: l.drop (j + 1)).filter fun x => x.op == op).length + R)) := hn
          simp only [Value.slice.injEq] at hv3
          obtain ⟨e1, _, e3⟩ := hv3
          rw [ha3 (ne_nil hlt2)] at e1
          subst e1
          clear hn hc3 hC ha3 e3 hx
          cases hop : x.op == op
          · have HM : Hid (N = n2 + (((l.drop (j + 1)).filter fun x => x.op == op).length + R)) := HN2.out.trans (by rw [List.filter_cons, hop]; rfl)
            go_wp2_with fail
            go_round
            case measure => simp [intOf]; omega
            case rel => exact ⟨j + 1, n2, by omega, by go_num, rfl, by omega, HM.out⟩
          · have HM : Hid (N = (n2 + 1) + (((l.drop (j + 1)).filter fun x => x.op == op).length + R)) := HN2.out.trans (by rw [List.filter_cons, hop]; simp; omega)
            go_wp2_with fail
            go_round
            case measure => simp [intOf]; omega
            case rel => exact ⟨j + 1, n2 + 1, by omega, by go_num, by go_num, by omega, HM.out⟩
        · have HM : Hid (N = n2 + cntO op (T.drop (k + 1))) := hn.out.trans (by rw [drop_nil hlt2, HR.out]; simp)
          clear hn
          go_wp2_with fail
          go_round
          case measure => simp [intOf]; omega
          case rel => exact ⟨k + 1, n2, by omega, by go_num, rfl, by omega, HM.out⟩
    · have HM : Hid (N = n) := hn.out.trans (by rw [drop_nil hlt]; rfl)
      clear hn htc hta ht
      go_wp2_with fail
      go_ret
      exact ⟨by rw [HM.out]; rfl, hbW⟩

end Go.Proofs.Ytomijmikkbhgmaa
