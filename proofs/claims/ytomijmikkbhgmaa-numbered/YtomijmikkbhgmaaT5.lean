import Derived.Test.YtomijmikkbhgmaaLc
import Derived.Deep.Light
import Derived.Test.YtomijmikkbhgmaaT1
import Derived.Test.YtomijmikkbhgmaaLb
namespace Go.Proofs.Ytomijmikkbhgmaa
open Go.RowKit

set_option maxHeartbeats 1000000 in
theorem mayBeAsked_any (a : Atm) (n : Nat) (_hn : n ≤ 4) (w : World) :
    Calls Try.prog 83 #[.agg #[.int .i64 a.thread, .int .i64 a.at', .int .i64 a.val], .int .i64 n] w fun e w' => e = .returned (.bool (atmB a n)) ∧ Below w.heap.size w w' := by
  go_enter Try.func83, Try.ntmps83
  go_wp2_with (first
    | (go_at_call 110; refine (isLoc_any _ _).mono ?_; rintro e w' ⟨rfl, rfl⟩)
    | (go_at_call 113; refine (isReg_any _ _).mono ?_; rintro e w' ⟨rfl, rfl⟩)
    | (go_at_call 111; refine (isVal_any _ _).mono ?_; rintro e w' ⟨rfl, rfl⟩))
  all_goals go_ret
  all_goals refine ⟨ret_bool ?_, below_alloc _ _⟩
  all_goals (go_light; simp_all [atmB]; try omega)

set_option maxHeartbeats 1000000 in
theorem atom_any (a : Atm) (n : Nat) (_hn : n ≤ 4) (w : World) :
    Calls Try.prog 36 #[.agg #[.int .i64 a.thread, .int .i64 a.at', .int .i64 a.val], .int .i64 n] w fun e w' => e = .returned (.bool (atmB a n)) ∧ Below w.heap.size w w' := by
  go_enter Try.func36, Try.ntmps36
  go_wp2_with (go_at_call 62; refine (within_any _ _ _ _).mono ?_; rintro e w' ⟨rfl, rfl⟩)
  all_goals go_ret
  all_goals refine ⟨ret_bool ?_, below_alloc _ _⟩
  all_goals (go_light; rw [Bool.eq_iff_iff]; simp_all [atmB, within, valB, locB]; try omega)

end Go.Proofs.Ytomijmikkbhgmaa

namespace Go.Proofs.Ytomijmikkbhgmaa
open Go.RowKit

set_option maxHeartbeats 1000000 in
theorem unnested_any (l : List Ins) (v : Value) (w : World) (h : InsAt w v l) (hl : l.length ≤ 12) :
    Calls Try.prog 82 #[v] w fun e w' => e = .returned (.int .i64 (nst l 0 false)) ∧ Below w.heap.size w w' := by
  obtain ⟨_, ao, b, off, cap, hv, ha, _, hc⟩ := h
  subst hv
  go_enter Try.func82, Try.ntmps82
  go_wp2
  go_loopw [3, 8] (fun en i wr => ∃ (k : Nat) (bb : Bool), k ≤ l.length ∧ i = .int .i64 k ∧ en = .bool bb ∧ Hid (nst l 0 false = nst (l.drop k) k bb) ∧ Below w.heap.size w wr) (fun _ i _ => l.length - (intOf i).toNat)
  case atStart => exact ⟨0, false, Nat.zero_le _, rfl, rfl, rfl, Below.refl _ _⟩
  case round =>
    obtain ⟨k, bb, hk, rfl, rfl, hn, hb⟩ := hrel
    by_cases hlt : k < l.length
    · obtain ⟨x, hx⟩ := get_of_lt hlt
      obtain ⟨c0, c1, c2, c3, c4⟩ := insC_keeps _ _ _ _ _ hb (hc k x hx)
      obtain rfl := ha (by intro h0; subst h0; simp at hlt)
      have HN : Hid (nst l 0 false = nst (x :: l.drop (k + 1)) k bb) := by rw [← drop_cons hx]; exact hn
      clear hc hx hn ha
      cases bb
      all_goals go_wp2_with fail
      all_goals first
        | (go_roundw
           case measure => simp [intOf]; omega
           case rel => exact ⟨k + 1, _, by omega, by go_num, rfl, HN.out.trans (by simp [nst, *]), hb.alloc hb.size _⟩)
        | (go_ret; exact ⟨ret_int (by rw [HN.out]; simp [nst, *]), hb.alloc hb.size _⟩)
    · have HN : Hid (nst l 0 false = nst [] k bb) := by rw [← drop_nil hlt]; exact hn
      have hkl : k = l.length := by omega
      clear hc hn ha
      cases bb
      all_goals go_wp2_with fail
      all_goals (go_ret; exact ⟨ret_int (by rw [HN.out]; simp [nst, *]), hb⟩)

set_option maxHeartbeats 1000000 in
theorem nests_any (l : List Ins) (v : Value) (w : World) (h : InsAt w v l) (hl : l.length ≤ 12) :
    Calls Try.prog 35 #[v] w fun e w' => e = .returned (.int .i64 (nst l 0 false)) ∧ Below w.heap.size w w' := by
  obtain ⟨_, ao, b, off, cap, hv, ha, _, hc⟩ := h
  subst hv
  go_enter Try.func35, Try.ntmps35
  go_wp2
  go_loopw [3, 4] (fun en i wr => ∃ (k : Nat) (bb : Bool), k ≤ l.length ∧ i = .int .i64 k ∧ en = .bool bb ∧ Hid (nst l 0 false = nst (l.drop k) k bb) ∧ Below w.heap.size w wr) (fun _ i _ => l.length - (intOf i).toNat)
  case atStart => exact ⟨0, false, Nat.zero_le _, rfl, rfl, rfl, Below.refl _ _⟩
  case round =>
    obtain ⟨k, bb, hk, rfl, rfl, hn, hb⟩ := hrel
    by_cases hlt : k < l.length
    · obtain ⟨x, hx⟩ := get_of_lt hlt
      obtain ⟨c0, c1, c2, c3, c4⟩ := insC_keeps _ _ _ _ _ hb (hc k x hx)
      obtain rfl := ha (by intro h0; subst h0; simp at hlt)
      have HN : Hid (nst l 0 false = nst (x :: l.drop (k + 1)) k bb) := by rw [← drop_cons hx]; exact hn
      clear hc hx hn ha
      cases bb
      all_goals go_wp2_with fail
      all_goals first
        | (go_roundw
           case measure => simp [intOf]; omega
           case rel => exact ⟨k + 1, _, by omega, by go_num, rfl, HN.out.trans (by simp [nst_cons7, *]), hb⟩)
        | (go_ret; exact ⟨ret_int (by rw [HN.out]; simp [nst_cons7, *]), hb⟩)
    · have HN : Hid (nst l 0 false = nst [] k bb) := by rw [← drop_nil hlt]; exact hn
      have hkl : k = l.length := by omega
      clear hc hn ha
      cases bb
      all_goals go_wp2_with fail
      all_goals (go_ret; exact ⟨ret_int (by rw [HN.out]; simp [nst, *]), hb⟩)

end Go.Proofs.Ytomijmikkbhgmaa

namespace Go.Proofs.Ytomijmikkbhgmaa
open Go.RowKit

def faultO (e : Int) (o : Option Nat) : Value := match o with | some p => .agg #[.int .i64 e, .int .i64 p] | none => .agg #[.int .i64 0, .int .i64 0]
def faultI (e : Int) (o : Option Int) : Value := match o with | some p => .agg #[.int .i64 e, .int .i64 p] | none => .agg #[.int .i64 0, .int .i64 0]

theorem ret_agg {a b : Int} (h : a = b) (e : Int) : Ending.returned (.agg #[.int .i64 e, .int .i64 a]) = .returned (.agg #[.int .i64 e, .int .i64 b]) := by rw [h]

set_option maxHeartbeats 1000000 in
theorem findInstr_any (T : List (List Ins)) (vt : Value) (w : World) (ht : ThrAt w vt T) (h2 : T.length ≤ 4) (hL : lensB T = true) :
    Calls Try.prog 58 #[vt] w fun e w' => e = .returned (faultO 2 (insF T 0)) ∧ Below w.heap.size w w' := by
  obtain ⟨ht0, ao, b, off, cap, htv, hta, _, htc⟩ := ht.opened
  subst htv
  go_enter Try.func58, Try.ntmps58
  go_wp2_with fail
  go_loopw [9] (fun i wr => ∃ k : Nat, k ≤ T.length ∧ i = .int .i64 k ∧ Hid (insF T 0 = insF (T.drop k) k) ∧ Below (w.heap.size + 1) (w.alloc (.cells #[.int .i64 0, .int .i64 0] 61)) wr) (fun i _ => T.length - (intOf i).toNat)
  case atStart => exact ⟨0, Nat.zero_le _, rfl, rfl, Below.refl _ _⟩
  case round =>
    obtain ⟨k, hk, rfl, hn, hb⟩ := hrel
    by_cases hlt : k < T.length
    · obtain ⟨l, hx⟩ := get_of_lt hlt
      obtain ⟨hbl, ao2, cap2, c0, hil⟩ := htc k l hx
      obtain rfl := hta (ne_nil hlt)
      have hl12 := lensB_get hL hx
      have HN : Hid (insF T 0 = insF (l :: T.drop (k + 1)) k) := by rw [← drop_cons hx]; exact hn
      have c1 : wr.cell? ⟨b, off + k, none⟩ = some (.slice ao2 l.length cap2) := by
        rw [hb.cell (by simp; omega)]; exact keep_cell (below_alloc _ _) c0
      have HIL : Hid (InsAt w (.slice ao2 l.length cap2) l) := hil
      clear hx hn hil ht c0 hL
      go_wp2_with fail
      go_loopw [16] (fun i w2 => ∃ j : Nat, j ≤ l.length ∧ i = .int .i64 j ∧ Hid (badAt l 0 = badAt (l.drop j) j) ∧ Below (w.heap.size + 1) (w.alloc (.cells #[.int .i64 0, .int .i64 0] 61)) w2) (fun i _ => l.length - (intOf i).toNat)
      case atStart => exact ⟨0, Nat.zero_le _, rfl, rfl, hb⟩
      case round =>
        obtain ⟨j, hj, rfl, hn, hb2⟩ := hrel
        clear hb c1
        by_cases hlt2 : j < l.length
        · obtain ⟨x, hx⟩ := get_of_lt hlt2
          obtain ⟨_, ao3, b3, off3, cap3, hv3, ha3, _, hc3⟩ := HIL.out
          have hC := hc3 j x hx
          have hbl3 := hC.lt
          have hK : Below w.heap.size w wr := (below_alloc _ _).trans (hb2.mono (by omega))
          obtain ⟨c0, c1, c2, c3, c4⟩ := insC_keeps _ _ _ _ _ hK hC
          have HN2 : Hid (badAt l 0 = badAt (x :: l.drop (j + 1)) j) := by rw [← drop_cons hx]; exact hn
          simp only [Value.slice.injEq] at hv3
          obtain ⟨e1, _, e3⟩ := hv3
          rw [ha3 (ne_nil hlt2)] at e1
          subst e1
          clear hn hc3 hC hK ha3 e3 hx
          have hsz : w.heap.size + 1 ≤ wr.heap.size := by have := hb2.size; simpa using this
          cases hm : mayB x
          · have HF : Hid (insF T 0 = some (100 * k + j)) := HN.out.trans (insF_bad (HN2.out.trans (badAt_bad hm _ _)) _ _)
            go_wp2_with (first
              | (go_at_call 80; refine (mayBe_any x _).mono ?_; rintro e w3 ⟨rfl, hb3⟩; have hb4 := (hb2.alloc hsz _).trans (hb3.mono (by simp; omega)); clear hb3; obtain ⟨d0, d1, f0, f1, s3⟩ := own2 hb4)
              | (go_at_call 81; refine (placeOf_any k j (by omega) (by omega) _).mono ?_; rintro e w4 ⟨rfl, rfl⟩))
            exact bodyPost_ret (v := .agg #[.int .i64 2, .int .i64 (100 * k + j)]) (by simp [results, Try.results58, go_sem, *]) rfl
              ⟨by rw [HF.out]; exact ret_agg (by simp) 2, (((below_alloc _ _).trans (hb4.mono (by omega))).setCell (Nat.le_refl _) _).setCell (Nat.le_refl _) _⟩
          · go_wp2_with (first
              | (go_at_call 80; refine (mayBe_any x _).mono ?_; rintro e w3 ⟨rfl, hb3⟩))
            have hb4 := (hb2.alloc hsz _).trans (hb3.mono (by simp; omega))
            go_roundw
            case measure => simp [intOf]; omega
            case rel => exact ⟨j + 1, by omega, by go_num, HN2.out.trans (badAt_ok hm _ _), hb4⟩
        · have HF : Hid (insF T 0 = insF (T.drop (k + 1)) (k + 1)) := HN.out.trans (insF_ok (hn.out.trans (by rw [drop_nil hlt2]; rfl)) _ _)
          clear hn
          go_wp2_with fail
          go_roundw
          case measure => simp [intOf]; omega
          case rel => exact ⟨k + 1, by omega, by go_num, HF.out, hb2⟩
    · have HF : Hid (insF T 0 = none) := by rw [hn, drop_nil hlt]; rfl
      clear hn htc hta ht
      obtain ⟨d0, d1, f0, f1, s3⟩ := own2 hb
      go_wp2_with fail
      exact bodyPost_ret (v := .agg #[.int .i64 0, .int .i64 0]) (by simp [results, Try.results58, go_sem, *]) rfl
        ⟨by rw [HF.out]; rfl, (((below_alloc _ _).trans (hb.mono (by omega))).setCell (Nat.le_refl _) _).setCell (Nat.le_refl _) _⟩

set_option maxHeartbeats 1000000 in
theorem findNest_any (T : List (List Ins)) (vt : Value) (w : World) (ht : ThrAt w vt T) (h2 : T.length ≤ 4) (hL : lensB T = true) :
    Calls Try.prog 59 #[vt] w fun e w' => e = .returned (faultI 3 (nstF T 0)) ∧ Below w.heap.size w w' := by
  obtain ⟨ht0, ao, b, off, cap, htv, hta, _, htc⟩ := ht.opened
  subst htv
  go_enter Try.func59, Try.ntmps59
  go_wp2_with fail
  go_loopw [8] (fun i wr => ∃ k : Nat, k ≤ T.length ∧ i = .int .i64 k ∧ Hid (nstF T 0 = nstF (T.drop k) k) ∧ Below (w.heap.size + 1) (w.alloc (.cells #[.int .i64 0, .int .i64 0] 61)) wr) (fun i _ => T.length - (intOf i).toNat)
  case atStart => exact ⟨0, Nat.zero_le _, rfl, rfl, Below.refl _ _⟩
  case round =>
    obtain ⟨k, hk, rfl, hn, hb⟩ := hrel
    have hsz : w.heap.size + 1 ≤ wr.heap.size := by have := hb.size; simpa using this
    by_cases hlt : k < T.length
    · obtain ⟨l, hx⟩ := get_of_lt hlt
      obtain ⟨hbl, ao2, cap2, c0, hil⟩ := htc k l hx
      obtain rfl := hta (ne_nil hlt)
      have hl12 := lensB_get hL hx
      have HN : Hid (nstF T 0 = nstF (l :: T.drop (k + 1)) k) := by rw [← drop_cons hx]; exact hn
      have hK : Below w.heap.size w wr := (below_alloc _ _).trans (hb.mono (by omega))
      have c1 : wr.cell? ⟨b, off + k, none⟩ = some (.slice ao2 l.length cap2) := keep_cell hK c0
      have HIL : Hid (InsAt wr (.slice ao2 l.length cap2) l) := hil.keep hK
      have hle := nst_le l 0 false
      generalize hp : nst l 0 false = p at hle
      have HP : Hid (nst l 0 false = p) := hp
      clear hx hn hil ht c0 hL htc hK hp hta
      by_cases hp0 : 0 ≤ p
      · obtain ⟨j, rfl⟩ := Int.eq_ofNat_of_zero_le hp0
        have HF : Hid (nstF T 0 = some (100 * k + (j : Int))) := HN.out.trans ((nstF_bad (by rw [HP.out]; omega) _ _).trans (by rw [HP.out]))
        go_wp2_with (first
          | (go_at_call 82; refine (unnested_any l _ _ HIL.out hl12).mono ?_; rw [HP.out]; rintro e w3 ⟨rfl, hb3⟩; have hb4 := hb.trans (hb3.mono hsz); clear hb3; obtain ⟨d0, d1, f0, f1, s3⟩ := own2 hb4)
          | (go_at_call 81; refine (placeOf_any k j (by omega) (by omega) _).mono ?_; rintro e w4 ⟨rfl, rfl⟩))
        exact bodyPost_ret (v := .agg #[.int .i64 3, .int .i64 (100 * k + j)]) (by simp [results, Try.results59, go_sem, *]) rfl
          ⟨by rw [HF.out]; rfl, (((below_alloc _ _).trans (hb4.mono (by omega))).setCell (Nat.le_refl _) _).setCell (Nat.le_refl _) _⟩
      · have HF : Hid (nstF T 0 = nstF (T.drop (k + 1)) (k + 1)) := HN.out.trans (nstF_ok (by rw [HP.out]; omega) _ _)
        go_wp2_with (first
          | (go_at_call 82; refine (unnested_any l _ _ HIL.out hl12).mono ?_; rw [HP.out]; rintro e w3 ⟨rfl, hb3⟩; have hb4 := hb.trans (hb3.mono hsz); clear hb3))
        go_roundw
        case measure => simp [intOf]; omega
        case rel => exact ⟨k + 1, by omega, by go_num, HF.out, hb4⟩
    · have HF : Hid (nstF T 0 = none) := by rw [hn, drop_nil hlt]; rfl
      clear hn htc hta ht
      obtain ⟨d0, d1, f0, f1, s3⟩ := own2 hb
      go_wp2_with fail
      exact bodyPost_ret (v := .agg #[.int .i64 0, .int .i64 0]) (by simp [results, Try.results59, go_sem, *]) rfl
        ⟨by rw [HF.out]; rfl, (((below_alloc _ _).trans (hb.mono (by omega))).setCell (Nat.le_refl _) _).setCell (Nat.le_refl _) _⟩

end Go.Proofs.Ytomijmikkbhgmaa

namespace Go.Proofs.Ytomijmikkbhgmaa
open Go.RowKit

/-- A boxed test and a second block of two, behind whatever is made later. -/
theorem own5 {w w3 : World} {x y z a b : Value} {t u : TypeId} (hb : Below (w.heap.size + 2) ((w.alloc (.cells #[x, y, z] t)).alloc (.cells #[a, b] u)) w3) :
    w3.cell? ⟨w.heap.size, 0, none⟩ = some x ∧ w3.cell? ⟨w.heap.size, 1, none⟩ = some y ∧ w3.cell? ⟨w.heap.size, 2, none⟩ = some z ∧
    w3.cell? ⟨w.heap.size + 1, 0, none⟩ = some a ∧ w3.cell? ⟨w.heap.size + 1, 1, none⟩ = some b ∧ w3.frozen? ⟨w.heap.size + 1, 0, none⟩ = false ∧ w3.frozen? ⟨w.heap.size + 1, 1, none⟩ = false ∧ w.heap.size < w3.heap.size ∧ w.heap.size + 1 < w3.heap.size := by
  have g0 := hb.cell (p := ⟨w.heap.size, 0, none⟩) (by simp)
  have g1 := hb.cell (p := ⟨w.heap.size, 1, none⟩) (by simp)
  have g2 := hb.cell (p := ⟨w.heap.size, 2, none⟩) (by simp)
  have h1 := hb.cell (p := ⟨w.heap.size + 1, 0, none⟩) (by simp)
  have h2 := hb.cell (p := ⟨w.heap.size + 1, 1, none⟩) (by simp)
  have h3 := hb.frozen (p := ⟨w.heap.size + 1, 0, none⟩) (by simp)
  have h4 := hb.frozen (p := ⟨w.heap.size + 1, 1, none⟩) (by simp)
  have h5 := hb.size
  simp at g0 g1 g2 h1 h2 h3 h4 h5
  exact ⟨g0, g1, g2, h1, h2, h3, h4, by omega, by omega⟩

set_option maxHeartbeats 1000000 in
theorem findCond_any (T : List (List Ins)) (fa : Bool) (c : List Atm) (v vt vc : Value) (w : World) (h : TestAt w v T fa c vt vc) (h2 : T.length ≤ 4) (h3 : c.length ≤ 6) :
    Calls Try.prog 60 #[v] w fun e w' => e = .returned (faultO 4 (atmF c 0 T.length)) ∧ Below w.heap.size w w' := by
  obtain ⟨hv, ht, ⟨hc0, ao', b', off', cap', hcv, hca, _, hcc⟩⟩ := h
  obtain ⟨ht0, ao, b, off, cap, htv, hta, _, htc⟩ := ht.opened
  subst hv htv hcv
  clear htc hta ht
  go_enter Try.func60, Try.ntmps60
  go_wp2_with fail
  go_loopw [8] (fun i wr => ∃ k : Nat, k ≤ c.length ∧ i = .int .i64 k ∧ Hid (atmF c 0 T.length = atmF (c.drop k) k T.length) ∧ Below (w.heap.size + 2) ((w.alloc (.cells #[.slice ao T.length cap, .bool fa, .slice ao' c.length cap'] 25)).alloc (.cells #[.int .i64 0, .int .i64 0] 61)) wr) (fun i _ => c.length - (intOf i).toNat)
  case atStart => exact ⟨0, Nat.zero_le _, rfl, rfl, Below.refl _ _⟩
  case round =>
    obtain ⟨k, hk, rfl, hn, hb⟩ := hrel
    obtain ⟨g0, g1, g2, d0, d1, f0, f1, s2, s3⟩ := own5 hb
    by_cases hlt : k < c.length
    · obtain ⟨a, hx⟩ := get_of_lt hlt
      have hC := hcc k a hx
      have hbl := hC.lt
      obtain rfl := hca (ne_nil hlt)
      have HN : Hid (atmF c 0 T.length = atmF (a :: c.drop (k + 1)) k T.length) := by rw [← drop_cons hx]; exact hn
      have hK : Below w.heap.size w wr := (below_two _ _ _).trans (hb.mono (by omega))
      obtain ⟨c0, c1, c2⟩ := atmC_keeps _ _ _ _ _ hK hC
      clear hx hn hcc hK hC hca
      cases hm : atmB a T.length
      · have HF : Hid (atmF c 0 T.length = some k) := HN.out.trans (atmF_bad hm _ _)
        go_wp2_with (go_at_call 83; refine (mayBeAsked_any a T.length h2 _).mono ?_; rw [hm]; rintro e w3 ⟨rfl, hb3⟩; have hb4 := (hb.alloc (by omega) _).trans (hb3.mono (by simp; omega)); clear hb3 g0 g1 g2 d0 d1 f0 f1; obtain ⟨g0, g1, g2, d0, d1, f0, f1, s4, s5⟩ := own5 hb4)
        exact bodyPost_ret (v := .agg #[.int .i64 4, .int .i64 k]) (by simp [results, Try.results60, go_sem, *]) rfl
          ⟨by rw [HF.out]; rfl, (((below_two _ _ _).trans (hb4.mono (by omega))).setCell (by simp) _).setCell (by simp) _⟩
      · have HF : Hid (atmF c 0 T.length = atmF (c.drop (k + 1)) (k + 1) T.length) := HN.out.trans (atmF_ok hm _ _)
        go_wp2_with (go_at_call 83; refine (mayBeAsked_any a T.length h2 _).mono ?_; rw [hm]; rintro e w3 ⟨rfl, hb3⟩; have hb4 := (hb.alloc (by omega) _).trans (hb3.mono (by simp; omega)); clear hb3)
        go_roundw
        case measure => simp [intOf]; omega
        case rel => exact ⟨k + 1, by omega, by go_num, HF.out, hb4⟩
    · have HF : Hid (atmF c 0 T.length = none) := by rw [hn, drop_nil hlt]; rfl
      clear hn hcc hca
      go_wp2_with fail
      exact bodyPost_ret (v := .agg #[.int .i64 0, .int .i64 0]) (by simp [results, Try.results60, go_sem, *]) rfl
        ⟨by rw [HF.out]; rfl, (((below_two _ _ _).trans (hb.mono (by omega))).setCell (by simp) _).setCell (by simp) _⟩

end Go.Proofs.Ytomijmikkbhgmaa

namespace Go.Proofs.Ytomijmikkbhgmaa
open Go.RowKit

theorem intAt_nil (w : World) (B : Nat) : IntNew B w (.slice none 0 0) [] := ⟨none, B, 0, 0, ⟨rfl, fun h => absurd rfl h, fun _ => ⟨rfl, rfl⟩, fun k x h => by simp at h⟩, Nat.le_refl _, Nat.le_refl _⟩

theorem intAt_one (w : World) (a : Int) (t : TypeId) : IntNew w.heap.size (w.alloc (.cells #[.int .i64 a] t)) (.slice (some ⟨w.heap.size, 0, none⟩) 1 1) [a] :=
  ⟨_, w.heap.size, 0, 1, ⟨rfl, fun _ => rfl, fun h => by simp at h, fun k x h => by
    match k, h with
    | 0, h => simp at h; subst h; simp [IntC]⟩, Nat.le_refl _, Nat.le_refl _⟩

theorem intAt_two (w : World) (a b : Int) (t : TypeId) : IntNew w.heap.size (w.alloc (.cells #[.int .i64 a, .int .i64 b] t)) (.slice (some ⟨w.heap.size, 0, none⟩) 2 2) [a, b] :=
  ⟨_, w.heap.size, 0, 2, ⟨rfl, fun _ => rfl, fun h => by simp at h, fun k x h => by
    match k, h with
    | 0, h => simp at h; subst h; simp [IntC]
    | 1, h => simp at h; subst h; simp [IntC]⟩, Nat.le_refl _, Nat.le_refl _⟩

theorem IntNew.of {B : Nat} {w : World} {v : Value} {l m : List Int} (h : IntNew B w v l) (e : m = l) : IntNew B w v m := by rw [e]; exact h

set_option maxHeartbeats 1000000 in
theorem kindsR_any (op : Int) (w : World) :
    Calls Try.prog 64 #[.int .i64 op] w fun e w' => ∃ v, e = .returned v ∧ IntNew w.heap.size w' v (kindsOf op) ∧ Below w.heap.size w w' := by
  go_enter Try.func64, Try.ntmps64
  go_wp2
  all_goals go_ret
  all_goals first
    | exact ⟨_, rfl, (intAt_one _ _ _).of (by simp [kindsOf, *]), below_alloc _ _⟩
    | exact ⟨_, rfl, (intAt_two _ _ _ _).of (by simp [kindsOf, *]), below_alloc _ _⟩
    | exact ⟨_, rfl, (intAt_nil _ _).of (by simp [kindsOf, *]), Below.refl _ _⟩

set_option maxHeartbeats 1000000 in
theorem kindsP_any (op : Int) (w : World) :
    Calls Try.prog 65 #[.int .i64 op] w fun e w' => ∃ v, e = .returned v ∧ IntNew w.heap.size w' v (kindsOf op) ∧ Below w.heap.size w w' := by
  go_enter Try.func65, Try.ntmps65
  go_wp2
  all_goals go_ret
  all_goals first
    | exact ⟨_, rfl, (intAt_one _ _ _).of (by simp [kindsOf, *]), below_alloc _ _⟩
    | exact ⟨_, rfl, (intAt_two _ _ _ _).of (by simp [kindsOf, *]), below_alloc _ _⟩
    | exact ⟨_, rfl, (intAt_nil _ _).of (by simp [kindsOf, *]), Below.refl _ _⟩

end Go.Proofs.Ytomijmikkbhgmaa
