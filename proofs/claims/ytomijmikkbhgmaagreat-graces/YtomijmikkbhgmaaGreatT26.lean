import Derived.Test.YtomijmikkbhgmaaGreatT25
import Derived.Test.YtomijmikkbhgmaaGreatLl
namespace Go.Proofs.YtomijmikkbhgmaaGreat
open Go.RowKit

def faultM (b : Bool) : Value := .agg #[.int .i64 (if b then 5 else 0), .int .i64 0]

theorem cntK_hit {k : Int} {x : Evt} (h : (x.kind == k) = true) (R : List Evt) : cntK k (x :: R) = 1 + cntK k R := by
  unfold cntK; rw [List.filter_cons, if_pos h, List.length_cons]; omega
theorem cntK_mis {k : Int} {x : Evt} (h : (x.kind == k) = false) (R : List Evt) : cntK k (x :: R) = cntK k R := by
  unfold cntK; rw [List.filter_cons, if_neg (by simp [h])]

set_option maxHeartbeats 2000000 in
theorem findMany_any (T : List (List Ins)) (vt : Value) (w : World) (ht : ThrAt w vt T) (h2 : T.length ≤ 4) (hL : lensB T = true) :
    Calls Tryz.prog 84 #[vt] w fun e w' => e = .returned (faultM (manyB T)) ∧ Below w.heap.size w w' := by
  have hEl : (evsT T 0).length ≤ 96 := by have := evsT_len T 0 hL; omega
  have hA : cntK 2 (evsT T 0) = cntO 5 T := cntK_evsT 5 2 kinds_enter T 0
  have hB : cntK 4 (evsT T 0) = cntO 7 T := cntK_evsT 7 4 kinds_sync T 0
  have hM : manyB T = (decide (3 < cntK 2 (evsT T 0)) || decide (2 < cntK 4 (evsT T 0)) || decide (2000 < cap2 (sizeN (evsT T 0)))) := by rw [hA, hB]; rfl
  have HT : Hid (ThrAt w vt T) := ht
  have HL : Hid (lensB T = true) := hL
  clear ht hL hA hB
  generalize hE : evsT T 0 = E at hEl hM
  have HE : Hid (evsT T 0 = E) := hE
  have HM : Hid (manyB T = (decide (3 < cntK 2 E) || decide (2 < cntK 4 E) || decide (2000 < cap2 (sizeN E)))) := hM
  clear hM hE
  generalize hmb : manyB T = mb at HM
  clear hmb
  go_enter Tryz.func84, Tryz.ntmps84
  go_wp2_with (go_at_call 39; refine (list_any T _ _ (HT.out.keep (below_alloc _ _)) h2 HL.out).mono ?_; rw [HE.out]; rintro e w3 ⟨u2, rfl, hu2, hb3⟩; have HU : Hid (Ev4At w3 u2 E) := hu2; obtain ⟨ao, b, off, cap, hv4, ha, _, hc⟩ := hu2; subst hv4)
  rw [World.size_alloc] at hb3
  go_loopw [4, 5, 12] (fun u s i wr => ∃ (k n m : Nat), k ≤ E.length ∧ i = .int .i64 k ∧ u = .int .i64 n ∧ s = .int .i64 m ∧ n ≤ k ∧ m ≤ k ∧ Hid (cntK 2 E = n + cntK 2 (E.drop k) ∧ cntK 4 E = m + cntK 4 (E.drop k)) ∧ Below w3.heap.size w3 wr) (fun _ _ i _ => E.length - (intOf i).toNat)
  case atStart => exact ⟨0, 0, 0, Nat.zero_le _, rfl, rfl, rfl, Nat.le_refl _, Nat.le_refl _, ⟨(Nat.zero_add _).symm, (Nat.zero_add _).symm⟩, Below.refl _ _⟩
  case round =>
    obtain ⟨k, n, m, hk, rfl, rfl, rfl, hnk, hmk, hn, hb⟩ := hrel
    have hsz := hb.size
    have hs3 := hb3.size
    simp only [World.size_alloc] at hs3
    by_cases hlt : k < E.length
    · obtain ⟨x, hx⟩ := get_of_lt hlt
      have hC := hc k x hx
      have hbl := hC.lt
      obtain rfl := ha (ne_nil hlt)
      obtain ⟨c0, c1, c2, c3⟩ := ev4C_keeps _ _ _ _ _ hb hC
      have HN : Hid (cntK 2 E = n + cntK 2 (x :: E.drop (k + 1)) ∧ cntK 4 E = m + cntK 4 (x :: E.drop (k + 1))) := by rw [← drop_cons hx]; exact hn
      have HC : Hid (∀ k x, E[k]? = some x → Ev4C w3 b (off + k * 4) x) := hc
      clear hn hC ha hx hc
      cases h1 : x.kind == 2
      · cases h4 : x.kind == 4
        · have HM1 : Hid (cntK 2 E = n + cntK 2 (E.drop (k + 1)) ∧ cntK 4 E = m + cntK 4 (E.drop (k + 1))) := ⟨HN.out.1.trans (by rw [cntK_mis h1]), HN.out.2.trans (by rw [cntK_mis h4])⟩
          go_wp2_with fail
          go_roundw
          case measure => simp [intOf]; omega
          case rel => exact ⟨k + 1, n, m, by omega, by go_num, rfl, rfl, by omega, by omega, HM1.out, hb.alloc hsz _⟩
        · have HM1 : Hid (cntK 2 E = n + cntK 2 (E.drop (k + 1)) ∧ cntK 4 E = (m + 1) + cntK 4 (E.drop (k + 1))) := ⟨HN.out.1.trans (by rw [cntK_mis h1]), HN.out.2.trans (by rw [cntK_hit h4]; omega)⟩
          go_wp2_with fail
          go_roundw
          case measure => simp [intOf]; omega
          case rel => exact ⟨k + 1, n, m + 1, by omega, by go_num, rfl, by go_num, by omega, by omega, HM1.out, hb.alloc hsz _⟩
      · have h4 : (x.kind == 4) = false := by rw [beq_iff_eq] at h1; rw [h1]; rfl
        have HM1 : Hid (cntK 2 E = (n + 1) + cntK 2 (E.drop (k + 1)) ∧ cntK 4 E = m + cntK 4 (E.drop (k + 1))) := ⟨HN.out.1.trans (by rw [cntK_hit h1]; omega), HN.out.2.trans (by rw [cntK_mis h4])⟩
        go_wp2_with fail
        go_roundw
        case measure => simp [intOf]; omega
        case rel => exact ⟨k + 1, n + 1, m, by omega, by go_num, by go_num, rfl, by omega, by omega, HM1.out, hb.alloc hsz _⟩
    · have e1 : cntK 2 E = n := hn.out.1.trans (by rw [drop_nil hlt]; rfl)
      have e2 : cntK 4 E = m := hn.out.2.trans (by rw [drop_nil hlt]; rfl)
      have HM2 : Hid (mb = (decide (3 < n) || decide (2 < m) || decide (2000 < cap2 (sizeN E)))) := by rw [← e1, ← e2]; exact HM
      clear hn hc ha e1 e2 HM
      have hb4 : Below (w.heap.size + 1) (w.alloc (.cells #[.int .i64 0, .int .i64 0] 84)) wr := hb3.trans (hb.mono (by omega))
      obtain ⟨d0, d1, f0, f1, s3⟩ := own2 hb4
      have hbF : Below w.heap.size w wr := (below_alloc _ _).trans (hb4.mono (by omega))
      by_cases h3 : 3 < n
      · have HF : Hid (mb = true) := HM2.out.trans (by simp [h3])
        go_wp2_with fail
        exact bodyPost_ret (v := .agg #[.int .i64 5, .int .i64 0]) (by simp [results, Tryz.results84, go_sem, *]) rfl
          ⟨by rw [HF.out]; rfl, (hbF.setCell (Nat.le_refl _) _).setCell (Nat.le_refl _) _⟩
      · by_cases h5 : 2 < m
        · have HF : Hid (mb = true) := HM2.out.trans (by simp [h5])
          go_wp2_with fail
          exact bodyPost_ret (v := .agg #[.int .i64 5, .int .i64 0]) (by simp [results, Tryz.results84, go_sem, *]) rfl
            ⟨by rw [HF.out]; rfl, (hbF.setCell (Nat.le_refl _) _).setCell (Nat.le_refl _) _⟩
        · have HM3 : Hid (mb = decide (2000 < cap2 (sizeN E))) := HM2.out.trans (by simp [h3, h5])
          generalize hcs : cap2 (sizeN E) = cs at HM3
          have HCS : Hid (cap2 (sizeN E) = cs) := hcs
          clear hcs HM2
          by_cases h6 : 2000 < cs
          · have HF : Hid (mb = true) := HM3.out.trans (by simp [h6])
            go_wp2_with (go_at_call 118; refine (countP_any E hEl _ _ (HU.out.keep hb)).mono ?_; rw [HCS.out]; rintro e w5 ⟨rfl, hb5⟩; have hb6 := hb4.trans (hb5.mono (by omega)); clear d0 d1 f0 f1 s3; obtain ⟨d0, d1, f0, f1, s3⟩ := own2 hb6)
            exact bodyPost_ret (v := .agg #[.int .i64 5, .int .i64 0]) (by simp [results, Tryz.results84, go_sem, *]) rfl
              ⟨by rw [HF.out]; rfl, (((below_alloc _ _).trans (hb6.mono (by omega))).setCell (Nat.le_refl _) _).setCell (Nat.le_refl _) _⟩
          · have HF : Hid (mb = false) := HM3.out.trans (by simp [h6])
            go_wp2_with (go_at_call 118; refine (countP_any E hEl _ _ (HU.out.keep hb)).mono ?_; rw [HCS.out]; rintro e w5 ⟨rfl, hb5⟩; have hb6 := hb4.trans (hb5.mono (by omega)); clear d0 d1 f0 f1 s3; obtain ⟨d0, d1, f0, f1, s3⟩ := own2 hb6)
            exact bodyPost_ret (v := .agg #[.int .i64 0, .int .i64 0]) (by simp [results, Tryz.results84, go_sem, *]) rfl
              ⟨by rw [HF.out]; rfl, (((below_alloc _ _).trans (hb6.mono (by omega))).setCell (Nat.le_refl _) _).setCell (Nat.le_refl _) _⟩

end Go.Proofs.YtomijmikkbhgmaaGreat

namespace Go.Proofs.YtomijmikkbhgmaaGreat
open Go.RowKit

/-- Find's own memory: the boxed test, the result, the fault so far. -/
structure FindSt (w w' : World) (vt vc : Value) (fa : Bool) (B : Nat) (e p : Int) : Prop where
  below : Below w.heap.size w w'
  b0 : w'.cell? ⟨w.heap.size, 0, none⟩ = some vt
  b1 : w'.cell? ⟨w.heap.size, 1, none⟩ = some (.bool fa)
  b2 : w'.cell? ⟨w.heap.size, 2, none⟩ = some vc
  r0 : w'.cell? ⟨w.heap.size + 1, 0, none⟩ = some (.int .i64 0)
  r1 : w'.cell? ⟨w.heap.size + 1, 1, none⟩ = some (.int .i64 0)
  q0 : w'.frozen? ⟨w.heap.size + 1, 0, none⟩ = false
  q1 : w'.frozen? ⟨w.heap.size + 1, 1, none⟩ = false
  f0 : w'.cell? ⟨B, 0, none⟩ = some (.int .i64 e)
  f1 : w'.cell? ⟨B, 1, none⟩ = some (.int .i64 p)
  z0 : w'.frozen? ⟨B, 0, none⟩ = false
  z1 : w'.frozen? ⟨B, 1, none⟩ = false
  lt : w.heap.size + 1 < B
  lb : B < w'.heap.size

theorem keep_frozen {w w' : World} (hb : Below w.heap.size w w') {b off : Nat} {v : Value} (h : w.cell? ⟨b, off, none⟩ = some v) : w'.frozen? ⟨b, off, none⟩ = w.frozen? ⟨b, off, none⟩ :=
  hb.frozen (p := ⟨b, off, none⟩) (World.block_lt_of_cell? w _ h)

theorem FindSt.keep {w w' w'' : World} {vt vc : Value} {fa : Bool} {B : Nat} {e p : Int} (h : FindSt w w' vt vc fa B e p) (hb : Below w'.heap.size w' w'') : FindSt w w'' vt vc fa B e p :=
  ⟨below_more h.below hb, keep_cell hb h.b0, keep_cell hb h.b1, keep_cell hb h.b2, keep_cell hb h.r0, keep_cell hb h.r1, (keep_frozen hb h.r0).trans h.q0, (keep_frozen hb h.r1).trans h.q1, keep_cell hb h.f0, keep_cell hb h.f1,
    (keep_frozen hb h.f0).trans h.z0, (keep_frozen hb h.f1).trans h.z1, h.lt, Nat.lt_of_lt_of_le h.lb hb.size⟩

theorem FindSt.init {w w3 : World} {vt vc : Value} {fa : Bool} {t u : TypeId} (hb : Below (w.heap.size + 2) ((w.alloc (.cells #[vt, .bool fa, vc] t)).alloc (.cells #[.int .i64 0, .int .i64 0] u)) w3) (e p : Int) :
    FindSt w (w3.alloc (.cells #[.int .i64 e, .int .i64 p] u)) vt vc fa w3.heap.size e p := by
  obtain ⟨g0, g1, g2, d0, d1, f0, f1, s2, s3⟩ := own5 hb
  have k := below_alloc w3 (.cells #[.int .i64 e, .int .i64 p] u)
  exact ⟨below_more ((below_two _ _ _).trans (hb.mono (by omega))) k, keep_cell k g0, keep_cell k g1, keep_cell k g2, keep_cell k d0, keep_cell k d1, (keep_frozen k d0).trans f0, (keep_frozen k d1).trans f1, by simp, by simp, by simp, by simp, s3, by simp⟩

theorem cell_set {w : World} {p : Addr} {u v : Value} {b o : Nat} (h : w.cell? ⟨b, o, none⟩ = some v) (hne : b ≠ p.block) : (w.setCell p u).cell? ⟨b, o, none⟩ = some v :=
  (World.cell?_of_block (w := w) (Below.heap_setCell _ _ _ _ hne)).trans h
theorem frozen_set {w : World} {p : Addr} {u : Value} {b o : Nat} (hne : b ≠ p.block) : (w.setCell p u).frozen? ⟨b, o, none⟩ = w.frozen? ⟨b, o, none⟩ :=
  World.frozen?_of_block (w := w) (Below.heap_setCell _ _ _ _ hne)

theorem FindSt.set {w w' : World} {vt vc : Value} {fa : Bool} {B : Nat} {e p : Int} (h : FindSt w w' vt vc fa B e p) (e' p' : Int) :
    FindSt w ((w'.setCell ⟨B, 0, none⟩ (.int .i64 e')).setCell ⟨B, 1, none⟩ (.int .i64 p')) vt vc fa B e' p' := by
  have h1 := h.lt
  have n0 : w.heap.size ≠ B := by omega
  have n1 : w.heap.size + 1 ≠ B := by omega
  have f0 := h.f0; have f1 := h.f1; have z0 := h.z0; have z1 := h.z1
  refine ⟨(h.below.setCell (by simp; omega) _).setCell (by simp; omega) _, cell_set (cell_set h.b0 n0) n0, cell_set (cell_set h.b1 n0) n0, cell_set (cell_set h.b2 n0) n0, cell_set (cell_set h.r0 n1) n1, cell_set (cell_set h.r1 n1) n1,
    ((frozen_set n1).trans (frozen_set n1)).trans h.q0, ((frozen_set n1).trans (frozen_set n1)).trans h.q1, ?_, ?_, ?_, ?_, h.lt, by simpa [World.setCell] using h.lb⟩
  all_goals simp [go_sem, *]

theorem chk_size {T : List (List Ins)} {c : List Atm} (h : sizeB T c = false) : chk T c = (1, 0) := by unfold chk; rw [if_neg (by simp [h])]
theorem chk_ins {T : List (List Ins)} {c : List Atm} {p : Nat} (h : sizeB T c = true) (hi : insF T 0 = some p) : chk T c = (2, (p : Int)) := by unfold chk; rw [if_pos h, hi]
theorem chk_nst {T : List (List Ins)} {c : List Atm} {p : Int} (h : sizeB T c = true) (hi : insF T 0 = none) (hn : nstF T 0 = some p) : chk T c = (3, p) := by unfold chk; rw [if_pos h, hi, hn]
theorem chk_atm {T : List (List Ins)} {c : List Atm} {p : Nat} (h : sizeB T c = true) (hi : insF T 0 = none) (hn : nstF T 0 = none) (ha : atmF c 0 T.length = some p) : chk T c = (4, (p : Int)) := by unfold chk; rw [if_pos h, hi, hn, ha]
theorem chk_many {T : List (List Ins)} {c : List Atm} (h : sizeB T c = true) (hi : insF T 0 = none) (hn : nstF T 0 = none) (ha : atmF c 0 T.length = none) (hm : manyB T = true) : chk T c = (5, 0) := by unfold chk; rw [if_pos h, hi, hn, ha, if_pos hm]
theorem chk_ok {T : List (List Ins)} {c : List Atm} (h : sizeB T c = true) (hi : insF T 0 = none) (hn : nstF T 0 = none) (ha : atmF c 0 T.length = none) (hm : manyB T = false) : chk T c = (0, 0) := by unfold chk; rw [if_pos h, hi, hn, ha, if_neg (by simp [hm])]

theorem sizeB_parts {T : List (List Ins)} {c : List Atm} (h : sizeB T c = true) : T.length ≤ 4 ∧ lensB T = true ∧ c.length ≤ 6 := by
  unfold sizeB at h
  simp only [Bool.and_eq_true, decide_eq_true_eq] at h
  exact ⟨h.1.1.2, h.1.2, h.2⟩

theorem below_set {w w' : World} {b o : Nat} {u : Value} (h : Below w.heap.size w w') (hb : w.heap.size ≤ b) : Below w.heap.size w (w'.setCell ⟨b, o, none⟩ u) := h.setCell hb u

def fault2 (q : Int × Int) : Value := .agg #[.int .i64 q.1, .int .i64 q.2]

set_option maxHeartbeats 4000000 in
theorem find_any (T : List (List Ins)) (fa : Bool) (c : List Atm) (v vt vc : Value) (w : World) (h : TestAt w v T fa c vt vc) :
    Calls Tryz.prog 43 #[v] w fun e w' => e = .returned (fault2 (chk T c)) ∧ Below w.heap.size w w' := by
  have HT : Hid (TestAt w v T fa c vt vc) := h
  obtain ⟨hv, _, _⟩ := h
  subst hv
  generalize hq : chk T c = q
  have HQ : Hid (chk T c = q) := hq
  clear hq
  go_enter Tryz.func43, Tryz.ntmps43
  go_wp2_with fail
  refine (findSize_any T fa c _ vt vc _ (HT.out.keep (below_two _ _ _))).mono ?_
  rintro e w3 ⟨rfl, hb3⟩
  simp only [World.size_alloc] at hb3
  obtain ⟨g0, g1, g2, d0, d1, f0, f1, s2, s3⟩ := own5 hb3
  have HB3 : Hid (Below (w.heap.size + 2) ((w.alloc (.cells #[vt, .bool fa, vc] 25)).alloc (.cells #[.int .i64 0, .int .i64 0] 84)) w3) := hb3
  clear hb3
  cases hs : sizeB T c
  · have HF : Hid (q = (1, 0)) := HQ.out.symm.trans (chk_size hs)
    clear HQ hs
    rw [show faultS false = .agg #[.int .i64 1, .int .i64 0] from rfl]
    go_wp2_with fail
    exact bodyPost_ret (v := .agg #[.int .i64 1, .int .i64 0]) (by simp [results, Tryz.results43, go_sem, *]) rfl
      ⟨by rw [HF.out]; rfl, (below_set (below_set ((below_two _ _ _).trans (HB3.out.mono (by omega))) (by omega)) (by omega)).alloc (by simp [World.setCell]; omega) _⟩
  · have HSB : Hid (T.length ≤ 4 ∧ lensB T = true ∧ c.length ≤ 6) := sizeB_parts hs
    have HSZ : Hid (sizeB T c = true) := hs
    clear hs
    rw [show faultS true = .agg #[.int .i64 0, .int .i64 0] from rfl]
    go_wp2_with fail
    have S4 := FindSt.init HB3.out 0 0
    refine (findInstr_any T vt _ (HT.out.ht.keep S4.below) HSB.out.1 HSB.out.2.1).mono ?_
    rintro e w5 ⟨rfl, hb5⟩
    have S5 := S4.keep hb5
    clear S4 hb5 g0 g1 g2 d0 d1 f0 f1 HB3
    generalize w3.heap.size = B at S5 ⊢
    have HS5 : Hid (FindSt w w5 vt vc fa B 0 0) := S5
    obtain ⟨-, b0, b1, b2, r0, r1, q0, q1, y0, y1, z0, z1, l1, l2⟩ := S5
    cases hins : insF T 0 with
    | some p =>
      have HF : Hid (q = (2, (p : Int))) := HQ.out.symm.trans (chk_ins HSZ.out hins)
      clear HQ hins
      rw [show faultO 2 (some p) = .agg #[.int .i64 2, .int .i64 p] from rfl]
      go_wp2_with fail
      exact bodyPost_ret (v := .agg #[.int .i64 2, .int .i64 p]) (by simp [results, Tryz.results43, go_sem, *]) rfl
        ⟨by rw [HF.out]; rfl, below_set (below_set (below_set (below_set HS5.out.below (by omega)) (by omega)) (by omega)) (by omega)⟩
    | none =>
      have HIN : Hid (insF T 0 = none) := hins
      clear hins
      rw [show faultO 2 none = .agg #[.int .i64 0, .int .i64 0] from rfl]
      go_wp2_with fail
      have S6 := HS5.out.set 0 0
      refine (findNest_any T vt _ (HT.out.ht.keep S6.below) HSB.out.1 HSB.out.2.1).mono ?_
      rintro e w7 ⟨rfl, hb7⟩
      have S7 := S6.keep hb7
      clear S6 hb7 b0 b1 b2 r0 r1 q0 q1 y0 y1 z0 z1 l1 l2 HS5
      have HS7 : Hid (FindSt w w7 vt vc fa B 0 0) := S7
      obtain ⟨-, b0, b1, b2, r0, r1, q0, q1, y0, y1, z0, z1, l1, l2⟩ := S7
      cases hnst : nstF T 0 with
      | some p =>
        have HF : Hid (q = (3, p)) := HQ.out.symm.trans (chk_nst HSZ.out HIN.out hnst)
        clear HQ hnst
        rw [show faultI 3 (some p) = .agg #[.int .i64 3, .int .i64 p] from rfl]
        go_wp2_with fail
        exact bodyPost_ret (v := .agg #[.int .i64 3, .int .i64 p]) (by simp [results, Tryz.results43, go_sem, *]) rfl
          ⟨by rw [HF.out]; rfl, below_set (below_set (below_set (below_set HS7.out.below (by omega)) (by omega)) (by omega)) (by omega)⟩
      | none =>
        have HNS : Hid (nstF T 0 = none) := hnst
        clear hnst
        rw [show faultI 3 none = .agg #[.int .i64 0, .int .i64 0] from rfl]
        go_wp2_with fail
        have S8 := HS7.out.set 0 0
        refine (findCond_any T fa c _ vt vc _ (HT.out.keep S8.below) HSB.out.1 HSB.out.2.2).mono ?_
        rintro e w9 ⟨rfl, hb9⟩
        have S9 := S8.keep hb9
        clear S8 hb9 b0 b1 b2 r0 r1 q0 q1 y0 y1 z0 z1 l1 l2 HS7
        have HS9 : Hid (FindSt w w9 vt vc fa B 0 0) := S9
        obtain ⟨-, b0, b1, b2, r0, r1, q0, q1, y0, y1, z0, z1, l1, l2⟩ := S9
        cases hat : atmF c 0 T.length with
        | some p =>
          have HF : Hid (q = (4, (p : Int))) := HQ.out.symm.trans (chk_atm HSZ.out HIN.out HNS.out hat)
          clear HQ hat
          rw [show faultO 4 (some p) = .agg #[.int .i64 4, .int .i64 p] from rfl]
          go_wp2_with fail
          exact bodyPost_ret (v := .agg #[.int .i64 4, .int .i64 p]) (by simp [results, Tryz.results43, go_sem, *]) rfl
            ⟨by rw [HF.out]; rfl, below_set (below_set (below_set (below_set HS9.out.below (by omega)) (by omega)) (by omega)) (by omega)⟩
        | none =>
          have HAT : Hid (atmF c 0 T.length = none) := hat
          clear hat
          rw [show faultO 4 none = .agg #[.int .i64 0, .int .i64 0] from rfl]
          go_wp2_with fail
          have S10 := HS9.out.set 0 0
          refine (findMany_any T vt _ (HT.out.ht.keep S10.below) HSB.out.1 HSB.out.2.1).mono ?_
          rintro e w11 ⟨rfl, hb11⟩
          have S11 := S10.keep hb11
          clear S10 hb11 b0 b1 b2 r0 r1 q0 q1 y0 y1 z0 z1 l1 l2 HS9
          have HS11 : Hid (FindSt w w11 vt vc fa B 0 0) := S11
          obtain ⟨-, b0, b1, b2, r0, r1, q0, q1, y0, y1, z0, z1, l1, l2⟩ := S11
          cases hmn : manyB T
          · have HF : Hid (q = (0, 0)) := HQ.out.symm.trans (chk_ok HSZ.out HIN.out HNS.out HAT.out hmn)
            clear HQ hmn
            rw [show faultM false = .agg #[.int .i64 0, .int .i64 0] from rfl]
            go_wp2_with fail
            exact bodyPost_ret (v := .agg #[.int .i64 0, .int .i64 0]) (by simp [results, Tryz.results43, go_sem, *]) rfl
              ⟨by rw [HF.out]; rfl, below_set (below_set (below_set (below_set HS11.out.below (by omega)) (by omega)) (by omega)) (by omega)⟩
          · have HF : Hid (q = (5, 0)) := HQ.out.symm.trans (chk_many HSZ.out HIN.out HNS.out HAT.out hmn)
            clear HQ hmn
            rw [show faultM true = .agg #[.int .i64 5, .int .i64 0] from rfl]
            go_wp2_with fail
            exact bodyPost_ret (v := .agg #[.int .i64 5, .int .i64 0]) (by simp [results, Tryz.results43, go_sem, *]) rfl
              ⟨by rw [HF.out]; rfl, below_set (below_set (below_set (below_set HS11.out.below (by omega)) (by omega)) (by omega)) (by omega)⟩

end Go.Proofs.YtomijmikkbhgmaaGreat
