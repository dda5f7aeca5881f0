import Derived.Test.YtomijmikkbhgmaaGreatLc
import Derived.Deep.Light
import Derived.Test.YtomijmikkbhgmaaGreatT1
import Derived.Test.YtomijmikkbhgmaaGreatLb
import Derived.Test.YtomijmikkbhgmaaGreatT2
import Derived.Test.YtomijmikkbhgmaaGreatT16
namespace Go.Proofs.YtomijmikkbhgmaaGreat
open Go.RowKit

set_option maxHeartbeats 1000000 in
theorem mayBeAsked_any (a : Atm) (n : Nat) (_hn : n ≤ 4) (w : World) :
    Calls Tryz.prog 126 #[.agg #[.int .i64 a.thread, .int .i64 a.at', .int .i64 a.val], .int .i64 n] w fun e w' => e = .returned (.bool (atmB a n)) ∧ Below w.heap.size w w' := by
  go_enter Tryz.func126, Tryz.ntmps126
  go_wp2_with (first
    | (go_at_call 153; refine (isLoc_any _ _).mono ?_; rintro e w' ⟨rfl, rfl⟩)
    | (go_at_call 156; refine (isReg_any _ _).mono ?_; rintro e w' ⟨rfl, rfl⟩)
    | (go_at_call 154; refine (isVal_any _ _).mono ?_; rintro e w' ⟨rfl, rfl⟩))
  all_goals go_ret
  all_goals refine ⟨ret_bool ?_, below_alloc _ _⟩
  all_goals (go_light; simp_all [atmB]; try omega)

set_option maxHeartbeats 1000000 in
theorem atom_any (a : Atm) (n : Nat) (_hn : n ≤ 4) (w : World) :
    Calls Tryz.prog 91 #[.agg #[.int .i64 a.thread, .int .i64 a.at', .int .i64 a.val], .int .i64 n] w fun e w' => e = .returned (.bool (atmB a n)) ∧ Below w.heap.size w w' := by
  go_enter Tryz.func91, Tryz.ntmps91
  go_wp2_with (go_at_call 127; refine (within_any _ _ _ _).mono ?_; rintro e w' ⟨rfl, rfl⟩)
  all_goals go_ret
  all_goals refine ⟨ret_bool ?_, below_alloc _ _⟩
  all_goals (go_light; rw [Bool.eq_iff_iff]; simp_all [atmB, within, valB, locB]; try omega)

end Go.Proofs.YtomijmikkbhgmaaGreat

namespace Go.Proofs.YtomijmikkbhgmaaGreat
open Go.RowKit

set_option maxHeartbeats 1000000 in
theorem unnested_any (l : List Ins) (v : Value) (w : World) (h : InsAt w v l) (hl : l.length ≤ 12) :
    Calls Tryz.prog 125 #[v] w fun e w' => e = .returned (.int .i64 (nst l 0 false)) ∧ Below w.heap.size w w' := by
  obtain ⟨_, ao, b, off, cap, hv, ha, _, hc⟩ := h
  subst hv
  go_enter Tryz.func125, Tryz.ntmps125
  go_wp2
  go_loopw [3, 8] (fun en i wr => ∃ (k : Nat) (bb : Bool), k ≤ l.length ∧ i = .int .i64 k ∧ en = .bool bb ∧ Hid (nst l 0 false = nst (l.drop k) k bb) ∧ Below w.heap.size w wr) (fun _ i _ => l.length - (intOf i).toNat)
  case atStart => exact ⟨0, false, Nat.zero_le _, rfl, rfl, rfl, Below.refl _ _⟩
  case round =>
    obtain ⟨k, bb, hk, rfl, rfl, hn, hb⟩ := hrel
    by_cases hlt : k < l.length
    · obtain ⟨x, hx⟩ := get_of_lt hlt
      obtain ⟨c0, c1, c2, c3, c4⟩ := insC_keeps _ _ _ _ _ hb (hc k x hx)
      obtain rfl := ha (by intro h0; subst h0; simp at hlt)
      have HN : Hid (nst l 0 false = nst (x :: l.drop (k + 1)) k bb) := by rw [← drop_cons hx]; exact hn
      clear hc hx hn ha
      cases bb
      all_goals go_wp2_with fail
      all_goals first
        | (go_roundw
           case measure => simp [intOf]; omega
           case rel => exact ⟨k + 1, _, by omega, by go_num, rfl, HN.out.trans (by simp [nst, *]), hb.alloc hb.size _⟩)
        | (go_ret; exact ⟨ret_int (by rw [HN.out]; simp [nst, *]), hb.alloc hb.size _⟩)
    · have HN : Hid (nst l 0 false = nst [] k bb) := by rw [← drop_nil hlt]; exact hn
      have hkl : k = l.length := by omega
      clear hc hn ha
      cases bb
      all_goals go_wp2_with fail
      all_goals (go_ret; exact ⟨ret_int (by rw [HN.out]; simp [nst, *]), hb⟩)

set_option maxHeartbeats 1000000 in
theorem nests_any (l : List Ins) (v : Value) (w : World) (h : InsAt w v l) (hl : l.length ≤ 12) :
    Calls Tryz.prog 90 #[v] w fun e w' => e = .returned (.int .i64 (nst l 0 false)) ∧ Below w.heap.size w w' := by
  obtain ⟨_, ao, b, off, cap, hv, ha, _, hc⟩ := h
  subst hv
  go_enter Tryz.func90, Tryz.ntmps90
  go_wp2
  go_loopw [3, 4] (fun en i wr => ∃ (k : Nat) (bb : Bool), k ≤ l.length ∧ i = .int .i64 k ∧ en = .bool bb ∧ Hid (nst l 0 false = nst (l.drop k) k bb) ∧ Below w.heap.size w wr) (fun _ i _ => l.length - (intOf i).toNat)
  case atStart => exact ⟨0, false, Nat.zero_le _, rfl, rfl, rfl, Below.refl _ _⟩
  case round =>
    obtain ⟨k, bb, hk, rfl, rfl, hn, hb⟩ := hrel
    by_cases hlt : k < l.length
    · obtain ⟨x, hx⟩ := get_of_lt hlt
      obtain ⟨c0, c1, c2, c3, c4⟩ := insC_keeps _ _ _ _ _ hb (hc k x hx)
      obtain rfl := ha (by intro h0; subst h0; simp at hlt)
      have HN : Hid (nst l 0 false = nst (x :: l.drop (k + 1)) k bb) := by rw [← drop_cons hx]; exact hn
      clear hc hx hn ha
      cases bb
      all_goals go_wp2_with fail
      all_goals first
        | (go_roundw
           case measure => simp [intOf]; omega
           case rel => exact ⟨k + 1, _, by omega, by go_num, rfl, HN.out.trans (by simp [nst_cons7, *]), hb⟩)
        | (go_ret; exact ⟨ret_int (by rw [HN.out]; simp [nst_cons7, *]), hb⟩)
    · have HN : Hid (nst l 0 false = nst [] k bb) := by rw [← drop_nil hlt]; exact hn
      have hkl : k = l.length := by omega
      clear hc hn ha
      cases bb
      all_goals go_wp2_with fail
      all_goals (go_ret; exact ⟨ret_int (by rw [HN.out]; simp [nst, *]), hb⟩)

end Go.Proofs.YtomijmikkbhgmaaGreat

namespace Go.Proofs.YtomijmikkbhgmaaGreat
open Go.RowKit

def faultO (e : Int) (o : Option Nat) : Value := match o with | some p => .agg #[.int .i64 e, .int .i64 p] | none => .agg #[.int .i64 0, .int .i64 0]
def faultI (e : Int) (o : Option Int) : Value := match o with | some p => .agg #[.int .i64 e, .int .i64 p] | none => .agg #[.int .i64 0, .int .i64 0]

theorem ret_agg {a b : Int} (h : a = b) (e : Int) : Ending.returned (.agg #[.int .i64 e, .int .i64 a]) = .returned (.agg #[.int .i64 e, .int .i64 b]) := by rw [h]

set_option maxHeartbeats 1000000 in
theorem findInstr_any (T : List (List Ins)) (vt : Value) (w : World) (ht : ThrAt w vt T) (h2 : T.length ≤ 4) (hL : lensB T = true) :
    Calls Tryz.prog 81 #[vt] w fun e w' => e = .returned (faultO 2 (insF T 0)) ∧ Below w.heap.size w w' := by
  obtain ⟨ht0, ao, b, off, cap, htv, hta, _, htc⟩ := ht.opened
  subst htv
  go_enter Tryz.func81, Tryz.ntmps81
  go_wp2_with fail
  go_loopw [9] (fun i wr => ∃ k : Nat, k ≤ T.length ∧ i = .int .i64 k ∧ Hid (insF T 0 = insF (T.drop k) k) ∧ Below (w.heap.size + 1) (w.alloc (.cells #[.int .i64 0, .int .i64 0] 84)) wr) (fun i _ => T.length - (intOf i).toNat)
  case atStart => exact ⟨0, Nat.zero_le _, rfl, rfl, Below.refl _ _⟩
  case round =>
    obtain ⟨k, hk, rfl, hn, hb⟩ := hrel
    by_cases hlt : k < T.length
    · obtain ⟨l, hx⟩ := get_of_lt hlt
      obtain ⟨hbl, ao2, cap2, c0, hil⟩ := htc k l hx
      obtain rfl := hta (ne_nil hlt)
      have hl12 := lensB_get hL hx
      have HN : Hid (insF T 0 = insF (l :: T.drop (k + 1)) k) := by rw [← drop_cons hx]; exact hn
      have c1 : wr.cell? ⟨b, off + k, none⟩ = some (.slice ao2 l.length cap2) := by
        rw [hb.cell (by simp; omega)]; exact keep_cell (below_alloc _ _) c0
      have HIL : Hid (InsAt w (.slice ao2 l.length cap2) l) := hil
      clear hx hn hil ht c0 hL
      go_wp2_with fail
      go_loopw [16] (fun i w2 => ∃ j : Nat, j ≤ l.length ∧ i = .int .i64 j ∧ Hid (badAt l 0 = badAt (l.drop j) j) ∧ Below (w.heap.size + 1) (w.alloc (.cells #[.int .i64 0, .int .i64 0] 84)) w2) (fun i _ => l.length - (intOf i).toNat)
      case atStart => exact ⟨0, Nat.zero_le _, rfl, rfl, hb⟩
      case round =>
        obtain ⟨j, hj, rfl, hn, hb2⟩ := hrel
        clear hb c1
        by_cases hlt2 : j < l.length
        · obtain ⟨x, hx⟩ := get_of_lt hlt2
          obtain ⟨_, ao3, b3, off3, cap3, hv3, ha3, _, hc3⟩ := HIL.out
          have hC := hc3 j x hx
          have hbl3 := hC.lt
          have hK : Below w.heap.size w wr := (below_alloc _ _).trans (hb2.mono (by omega))
          obtain ⟨c0, c1, c2, c3, c4⟩ := insC_keeps _ _ _ _ _ hK hC
          have HN2 : Hid (badAt l 0 = badAt (x :: l.drop (j + 1)) j) := by rw [← drop_cons hx]; exact hn
          simp only [Value.slice.injEq] at hv3
          obtain ⟨e1, _, e3⟩ := hv3
          rw [ha3 (ne_nil hlt2)] at e1
          subst e1
          clear hn hc3 hC hK ha3 e3 hx
          have hsz : w.heap.size + 1 ≤ wr.heap.size := by have := hb2.size; simpa using this
          cases hm : mayB x
          · have HF : Hid (insF T 0 = some (100 * k + j)) := HN.out.trans (insF_bad (HN2.out.trans (badAt_bad hm _ _)) _ _)
            go_wp2_with (first
              | (go_at_call 123; refine (mayBe_any x _).mono ?_; rintro e w3 ⟨rfl, hb3⟩; have hb4 := (hb2.alloc hsz _).trans (hb3.mono (by simp; omega)); clear hb3; obtain ⟨d0, d1, f0, f1, s3⟩ := own2 hb4)
              | (go_at_call 124; refine (placeOf_any k j (by omega) (by omega) _).mono ?_; rintro e w4 ⟨rfl, rfl⟩))
            exact bodyPost_ret (v := .agg #[.int .i64 2, .int .i64 (100 * k + j)]) (by simp [results, Tryz.results81, go_sem, *]) rfl
              ⟨by rw [HF.out]; exact ret_agg (by simp) 2, (((below_alloc _ _).trans (hb4.mono (by omega))).setCell (Nat.le_refl _) _).setCell (Nat.le_refl _) _⟩
          · go_wp2_with (first
              | (go_at_call 123; refine (mayBe_any x _).mono ?_; rintro e w3 ⟨rfl, hb3⟩))
            have hb4 := (hb2.alloc hsz _).trans (hb3.mono (by simp; omega))
            go_roundw
            case measure => simp [intOf]; omega
            case rel => exact ⟨j + 1, by omega, by go_num, HN2.out.trans (badAt_ok hm _ _), hb4⟩
        · have HF : Hid (insF T 0 = insF (T.drop (k + 1)) (k + 1)) := HN.out.trans (insF_ok (hn.out.trans (by rw [drop_nil hlt2]; rfl)) _ _)
          clear hn
          go_wp2_with fail
          go_roundw
          case measure => simp [intOf]; omega
          case rel => exact ⟨k + 1, by omega, by go_num, HF.out, hb2⟩
    · have HF : Hid (insF T 0 = none) := by rw [hn, drop_nil hlt]; rfl
      clear hn htc hta ht
      obtain ⟨d0, d1, f0, f1, s3⟩ := own2 hb
      go_wp2_with fail
      exact bodyPost_ret (v := .agg #[.int .i64 0, .int .i64 0]) (by simp [results, Tryz.results81, go_sem, *]) rfl
        ⟨by rw [HF.out]; rfl, (((below_alloc _ _).trans (hb.mono (by omega))).setCell (Nat.le_refl _) _).setCell (Nat.le_refl _) _⟩

set_option maxHeartbeats 1000000 in
theorem findNest_any (T : List (List Ins)) (vt : Value) (w : World) (ht : ThrAt w vt T) (h2 : T.length ≤ 4) (hL : lensB T = true) :
    Calls Tryz.prog 82 #[vt] w fun e w' => e = .returned (faultI 3 (nstF T 0)) ∧ Below w.heap.size w w' := by
  obtain ⟨ht0, ao, b, off, cap, htv, hta, _, htc⟩ := ht.opened
  subst htv
  go_enter Tryz.func82, Tryz.ntmps82
  go_wp2_with fail
  go_loopw [8] (fun i wr => ∃ k : Nat, k ≤ T.length ∧ i = .int .i64 k ∧ Hid (nstF T 0 = nstF (T.drop k) k) ∧ Below (w.heap.size + 1) (w.alloc (.cells #[.int .i64 0, .int .i64 0] 84)) wr) (fun i _ => T.length - (intOf i).toNat)
  case atStart => exact ⟨0, Nat.zero_le _, rfl, rfl, Below.refl _ _⟩
  case round =>
    obtain ⟨k, hk, rfl, hn, hb⟩ := hrel
    have hsz : w.heap.size + 1 ≤ wr.heap.size := by have := hb.size; simpa using this
    by_cases hlt : k < T.length
    · obtain ⟨l, hx⟩ := get_of_lt hlt
      obtain ⟨hbl, ao2, cap2, c0, hil⟩ := htc k l hx
      obtain rfl := hta (ne_nil hlt)
      have hl12 := lensB_get hL hx
      have HN : Hid (nstF T 0 = nstF (l :: T.drop (k + 1)) k) := by rw [← drop_cons hx]; exact hn
      have hK : Below w.heap.size w wr := (below_alloc _ _).trans (hb.mono (by omega))
      have c1 : wr.cell? ⟨b, off + k, none⟩ = some (.slice ao2 l.length cap2) := keep_cell hK c0
      have HIL : Hid (InsAt wr (.slice ao2 l.length cap2) l) := hil.keep hK
      have hle := nst_le l 0 false
      generalize hp : nst l 0 false = p at hle
      have HP : Hid (nst l 0 false = p) := hp
      clear hx hn hil ht c0 hL htc hK hp hta
      by_cases hp0 : 0 ≤ p
      · obtain ⟨j, rfl⟩ := Int.eq_ofNat_of_zero_le hp0
        have HF : Hid (nstF T 0 = some (100 * k + (j : Int))) := HN.out.trans ((nstF_bad (by rw [HP.out]; omega) _ _).trans (by rw [HP.out]))
        go_wp2_with (first
          | (go_at_call 125; refine (unnested_any l _ _ HIL.out hl12).mono ?_; rw [HP.out]; rintro e w3 ⟨rfl, hb3⟩; have hb4 := hb.trans (hb3.mono hsz); clear hb3; obtain ⟨d0, d1, f0, f1, s3⟩ := own2 hb4)
          | (go_at_call 124; refine (placeOf_any k j (by omega) (by omega) _).mono ?_; rintro e w4 ⟨rfl, rfl⟩))
        exact bodyPost_ret (v := .agg #[.int .i64 3, .int .i64 (100 * k + j)]) (by simp [results, Tryz.results82, go_sem, *]) rfl
          ⟨by rw [HF.out]; rfl, (((below_alloc _ _).trans (hb4.mono (by omega))).setCell (Nat.le_refl _) _).setCell (Nat.le_refl _) _⟩
      · have HF : Hid (nstF T 0 = nstF (T.drop (k + 1)) (k + 1)) := HN.out.trans (nstF_ok (by rw [HP.out]; omega) _ _)
        go_wp2_with (first
          | (go_at_call 125; refine (unnested_any l _ _ HIL.out hl12).mono ?_; rw [HP.out]; rintro e w3 ⟨rfl, hb3⟩; have hb4 := hb.trans (hb3.mono hsz); clear hb3))
        go_roundw
        case measure => simp [intOf]; omega
        case rel => exact ⟨k + 1, by omega, by go_num, HF.out, hb4⟩
    · have HF : Hid (nstF T 0 = none) := by rw [hn, drop_nil hlt]; rfl
      clear hn htc hta ht
      obtain ⟨d0, d1, f0, f1, s3⟩ := own2 hb
      go_wp2_with fail
      exact bodyPost_ret (v := .agg #[.int .i64 0, .int .i64 0]) (by simp [results, Tryz.results82, go_sem, *]) rfl
        ⟨by rw [HF.out]; rfl, (((below_alloc _ _).trans (hb.mono (by omega))).setCell (Nat.le_refl _) _).setCell (Nat.le_refl _) _⟩

end Go.Proofs.YtomijmikkbhgmaaGreat

namespace Go.Proofs.YtomijmikkbhgmaaGreat
open Go.RowKit

/-- A boxed test and a second block of two, behind whatever is made later. -/
theorem own5 {w w3 : World} {x y z a b : Value} {t u : TypeId} (hb : Below (w.heap.size + 2) ((w.alloc (.cells #[x, y, z] t)).alloc (.cells #[a, b] u)) w3) :
    w3.cell? ⟨w.heap.size, 0, none⟩ = some x ∧ w3.cell? ⟨w.heap.size, 1, none⟩ = some y ∧ w3.cell? ⟨w.heap.size, 2, none⟩ = some z ∧
    w3.cell? ⟨w.heap.size + 1, 0, none⟩ = some a ∧ w3.cell? ⟨w.heap.size + 1, 1, none⟩ = some b ∧ w3.frozen? ⟨w.heap.size + 1, 0, none⟩ = false ∧ w3.frozen? ⟨w.heap.size + 1, 1, none⟩ = false ∧ w.heap.size < w3.heap.size ∧ w.heap.size + 1 < w3.heap.size := by
  have g0 := hb.cell (p := ⟨w.heap.size, 0, none⟩) (by simp)
  have g1 := hb.cell (p := ⟨w.heap.size, 1, none⟩) (by simp)
  have g2 := hb.cell (p := ⟨w.heap.size, 2, none⟩) (by simp)
  have h1 := hb.cell (p := ⟨w.heap.size + 1, 0, none⟩) (by simp)
  have h2 := hb.cell (p := ⟨w.heap.size + 1, 1, none⟩) (by simp)
  have h3 := hb.frozen (p := ⟨w.heap.size + 1, 0, none⟩) (by simp)
  have h4 := hb.frozen (p := ⟨w.heap.size + 1, 1, none⟩) (by simp)
  have h5 := hb.size
  simp at g0 g1 g2 h1 h2 h3 h4 h5
  exact ⟨g0, g1, g2, h1, h2, h3, h4, by omega, by omega⟩

set_option maxHeartbeats 1000000 in
theorem findCond_any (T : List (List Ins)) (fa : Bool) (c : List Atm) (v vt vc : Value) (w : World) (h : TestAt w v T fa c vt vc) (h2 : T.length ≤ 4) (h3 : c.length ≤ 6) :
    Calls Tryz.prog 83 #[v] w fun e w' => e = .returned (faultO 4 (atmF c 0 T.length)) ∧ Below w.heap.size w w' := by
  obtain ⟨hv, ht, ⟨hc0, ao', b', off', cap', hcv, hca, _, hcc⟩⟩ := h
  obtain ⟨ht0, ao, b, off, cap, htv, hta, _, htc⟩ := ht.opened
  subst hv htv hcv
  clear htc hta ht
  go_enter Tryz.func83, Tryz.ntmps83
  go_wp2_with fail
  go_loopw [8] (fun i wr => ∃ k : Nat, k ≤ c.length ∧ i = .int .i64 k ∧ Hid (atmF c 0 T.length = atmF (c.drop k) k T.length) ∧ Below (w.heap.size + 2) ((w.alloc (.cells #[.slice ao T.length cap, .bool fa, .slice ao' c.length cap'] 25)).alloc (.cells #[.int .i64 0, .int .i64 0] 84)) wr) (fun i _ => c.length - (intOf i).toNat)
  case atStart => exact ⟨0, Nat.zero_le _, rfl, rfl, Below.refl _ _⟩
  case round =>
    obtain ⟨k, hk, rfl, hn, hb⟩ := hrel
    obtain ⟨g0, g1, g2, d0, d1, f0, f1, s2, s3⟩ := own5 hb
    by_cases hlt : k < c.length
    · obtain ⟨a, hx⟩ := get_of_lt hlt
      have hC := hcc k a hx
      have hbl := hC.lt
      obtain rfl := hca (ne_nil hlt)
      have HN : Hid (atmF c 0 T.length = atmF (a :: c.drop (k + 1)) k T.length) := by rw [← drop_cons hx]; exact hn
      have hK : Below w.heap.size w wr := (below_two _ _ _).trans (hb.mono (by omega))
      obtain ⟨c0, c1, c2⟩ := atmC_keeps _ _ _ _ _ hK hC
      clear hx hn hcc hK hC hca
      cases hm : atmB a T.length
      · have HF : Hid (atmF c 0 T.length = some k) := HN.out.trans (atmF_bad hm _ _)
        go_wp2_with (go_at_call 126; refine (mayBeAsked_any a T.length h2 _).mono ?_; rw [hm]; rintro e w3 ⟨rfl, hb3⟩; have hb4 := (hb.alloc (by omega) _).trans (hb3.mono (by simp; omega)); clear hb3 g0 g1 g2 d0 d1 f0 f1; obtain ⟨g0, g1, g2, d0, d1, f0, f1, s4, s5⟩ := own5 hb4)
        exact bodyPost_ret (v := .agg #[.int .i64 4, .int .i64 k]) (by simp [results, Tryz.results83, go_sem, *]) rfl
          ⟨by rw [HF.out]; rfl, (((below_two _ _ _).trans (hb4.mono (by omega))).setCell (by simp) _).setCell (by simp) _⟩
      · have HF : Hid (atmF c 0 T.length = atmF (c.drop (k + 1)) (k + 1) T.length) := HN.out.trans (atmF_ok hm _ _)
        go_wp2_with (go_at_call 126; refine (mayBeAsked_any a T.length h2 _).mono ?_; rw [hm]; rintro e w3 ⟨rfl, hb3⟩; have hb4 := (hb.alloc (by omega) _).trans (hb3.mono (by simp; omega)); clear hb3)
        go_roundw
        case measure => simp [intOf]; omega
        case rel => exact ⟨k + 1, by omega, by go_num, HF.out, hb4⟩
    · have HF : Hid (atmF c 0 T.length = none) := by rw [hn, drop_nil hlt]; rfl
      clear hn hcc hca
      go_wp2_with fail
      exact bodyPost_ret (v := .agg #[.int .i64 0, .int .i64 0]) (by simp [results, Tryz.results83, go_sem, *]) rfl
        ⟨by rw [HF.out]; rfl, (((below_two _ _ _).trans (hb.mono (by omega))).setCell (by simp) _).setCell (by simp) _⟩

end Go.Proofs.YtomijmikkbhgmaaGreat

namespace Go.Proofs.YtomijmikkbhgmaaGreat
open Go.RowKit

set_option maxHeartbeats 1000000 in
theorem sources_any (E : List Evt) (hE : E.length ≤ 96) (loc : Int) (v : Value) (w : World) (h : Ev4At w v E) :
    Calls Tryz.prog 131 #[v, .int .i64 loc] w fun e w' => ∃ u, e = .returned u ∧ IntNew w.heap.size w' u (-1 :: wrs E 0 loc) ∧ Below w.heap.size w w' := by
  obtain ⟨i0, hi, hz0, hz1, hz2⟩ := info_parts Tryz.info3
  have HI : Hid (Tryz.prog.info? 3 = some i0 ∧ i0.zero = some (.int .i64 0) ∧ i0.size = 1 ∧ i0.bytes = 8) := ⟨hi, hz0, hz1, hz2⟩
  clear hi hz0 hz1 hz2
  have hwl := wrs_len E 0 loc
  generalize hW : wrs E 0 loc = W at hwl
  have HW : Hid (wrs E 0 loc = W) := hW
  clear hW
  have hv : ∃ ao n cap, v = .slice ao n cap := by
    obtain ⟨ao, b, off, cap, hv, _⟩ := h
    exact ⟨_, _, _, hv⟩
  obtain ⟨ao, n, cap, hv⟩ := hv
  have HH : Hid (Ev4At w v E) := h
  clear h
  subst hv
  go_enter Tryz.func131, Tryz.ntmps131
  go_wp2_with (go_at_call 133; refine (writesP_any E hE loc _ _ (HH.out.keep (below_alloc _ _))).mono ?_; rw [HW.out]; rintro e w3 ⟨u, rfl, hu, hb3⟩; obtain ⟨ao2, b2, off2, cap2, ⟨hv2, ha2, _, hc2⟩, hb2⟩ := hu; subst hv2; simp only [World.size_alloc] at hb2)
  have hown0 := own_keep (own_one w (-1) 3) hb3
  have hb : Below w.heap.size w w3 := below_more (below_alloc _ _) hb3
  clear hb3
  go_loopw [5, 13] (fun u i wr => ∃ (k : Nat) (xs : List Int), k ≤ W.length ∧ i = .int .i64 k ∧ Hid (xs = -1 :: W.take k) ∧ xs.length ≤ 1 + k ∧ wr.ownsRow w.heap.size 3 1 u xs.length (xs.map (Value.int .i64)) ∧ (∀ g, u.ownBlock = some g → g ≠ b2) ∧ (∀ j x, W[j]? = some x → b2 < wr.heap.size ∧ wr.cell? ⟨b2, off2 + j, none⟩ = some (.int .i64 x)) ∧ Below w.heap.size w wr) (fun _ i _ => W.length - (intOf i).toNat)
  case atStart =>
    refine ⟨0, [-1], Nat.zero_le _, rfl, rfl, Nat.le_refl _, hown0, ?_, ?_, hb⟩
    · intro g hg; simp [Value.ownBlock] at hg; omega
    · intro j x hj
      have h1 := hc2 j x hj
      unfold IntC at h1
      rw [Nat.mul_one] at h1
      exact ⟨World.block_lt_of_cell? _ _ h1, h1⟩
  case round =>
    obtain ⟨k, xs, hk, rfl, hxs, hxl, hown, hap, hcs, hbr⟩ := hrel
    have hsz := hbr.size
    by_cases hlt : k < W.length
    · obtain ⟨x, hx⟩ := get_of_lt hlt
      obtain ⟨hbl, c0⟩ := hcs k x hx
      obtain rfl := ha2 (ne_nil hlt)
      have HX : Hid (xs ++ [x] = -1 :: W.take (k + 1)) := by rw [hxs.out, take_snoc hx]; rfl
      have HCS : Hid (∀ j x, W[j]? = some x → b2 < wr.heap.size ∧ wr.cell? ⟨b2, off2 + j, none⟩ = some (.int .i64 x)) := hcs
      clear hx hc2 ha2 hcs hb hown0
      go_wp2_with (at_builtin; refine append_new _ rfl _ _ 26 rfl w.heap.size 3 i0 (.int .i64 0) 1 8 Tryz.underlying26 HI.out.1 HI.out.2.1 HI.out.2.2.1 HI.out.2.2.2 rfl (by decide) _ _ _ rfl (hown.alloc _) (some ⟨wr.heap.size, 0, none⟩) 1 1 [.int .i64 x] rfl (fun h => by cases h) rfl (fun ad had => by cases had; exact new_one rfl) (by simp [Value.oneCell']) (by unfold maxLen; omega) (by omega) (by simp; omega) ?_)
      intro u' w1 hown' hgrow hap'
      have hb' : Below w.heap.size w w1 := Below.grown (hbr.alloc hsz _) hgrow (by simp; omega) (fun kk e => (hown.lt kk e).1)
      have hcs' : ∀ j x, W[j]? = some x → b2 < w1.heap.size ∧ w1.cell? ⟨b2, off2 + j, none⟩ = some (.int .i64 x) := by
        intro j y hj
        obtain ⟨q1, q2⟩ := HCS.out j y hj
        have := hgrow.size
        simp only [World.size_alloc] at this
        exact ⟨by omega, hgrow.cell (keep_cell (below_alloc _ _) q2) (fun e => hap b2 e.symm rfl)⟩
      have hap2 : ∀ g, u'.ownBlock = some g → g ≠ b2 := by
        intro g hg
        rcases hap' g hg with h | h
        · exact hap g h
        · try simp only [World.size_alloc] at h
          omega
      have HO : Hid (w1.ownsRow w.heap.size 3 1 u' (xs ++ [x]).length ((xs ++ [x]).map (Value.int .i64))) := own_snoc hown'
      clear hgrow hown hap hap' HCS hown' c0
      have HC2 : Hid (∀ j x, W[j]? = some x → b2 < w1.heap.size ∧ w1.cell? ⟨b2, off2 + j, none⟩ = some (.int .i64 x)) := hcs'
      clear hcs'
      go_wp2_with fail
      go_roundw
      case measure => simp [intOf]; omega
      case rel => exact ⟨k + 1, xs ++ [x], by omega, by go_num, HX.out, by simp; omega, HO.out, hap2, HC2.out, hb'⟩
    · have hE : xs = -1 :: W := by rw [hxs.out, List.take_of_length_le (by omega)]
      subst hE
      have HO : Hid (wr.ownsRow w.heap.size 3 1 u5 (-1 :: W).length ((-1 :: W).map (Value.int .i64))) := hown
      clear hcs hc2 ha2 hb hown0 hown
      go_wp2_with fail
      go_ret
      exact ⟨_, rfl, owns_int HO.out, hbr⟩

end Go.Proofs.YtomijmikkbhgmaaGreat

namespace Go.Proofs.YtomijmikkbhgmaaGreat
open Go.RowKit

theorem cap_step {S n f X : Nat} (h : S = cap2 (n * (f * X))) (hX : 1 ≤ X) : S = cap2 (cap2 (n * f) * X) := by
  rw [cap2_mul _ _ hX, Nat.mul_assoc]; exact h

set_option maxHeartbeats 2000000 in
theorem countP_any (E : List Evt) (hE : E.length ≤ 96) (v : Value) (w : World) (h : Ev4At w v E) :
    Calls Tryz.prog 118 #[v] w fun e w' => e = .returned (.int .i64 (cap2 (sizeN E) : Nat)) ∧ Below w.heap.size w w' := by
  have HE : Hid (Ev4At w v E) := h
  obtain ⟨ao, b, off, cap, hv, ha, _, hc⟩ := h
  subst hv
  generalize hS : cap2 (sizeN E) = S
  have HS : Hid (S = cap2 (sizeN E)) := hS.symm
  clear hS
  go_enter Tryz.func118, Tryz.ntmps118
  go_wp2_with fail
  go_loopw [3, 12] (fun u i wr => ∃ (k n : Nat), k ≤ E.length ∧ i = .int .i64 k ∧ u = .int .i64 n ∧ n ≤ 2001 ∧ Hid (S = cap2 (n * (prodR E (E.drop k) * facL E 0))) ∧ Below w.heap.size w wr) (fun _ i _ => E.length - (intOf i).toNat)
  case atStart => exact ⟨0, 1, Nat.zero_le _, rfl, rfl, by omega, by rw [Nat.one_mul, List.drop_zero, ← sizeN_eq]; exact HS.out, Below.refl _ _⟩
  case round =>
    obtain ⟨k, n, hk, rfl, rfl, hn0, hn, hb⟩ := hrel
    have hsz := hb.size
    by_cases hlt : k < E.length
    · obtain ⟨x, hx⟩ := get_of_lt hlt
      have hC := hc k x hx
      have hbl := hC.lt
      obtain rfl := ha (ne_nil hlt)
      obtain ⟨c0, c1, c2, c3⟩ := ev4C_keeps _ _ _ _ _ hb hC
      have HN : Hid (S = cap2 (n * (prodR E (x :: E.drop (k + 1)) * facL E 0))) := by rw [← drop_cons hx]; exact hn
      clear hn hC ha hx
      have HC : Hid (∀ k x, E[k]? = some x → Ev4C w b (off + k * 4) x) := hc
      clear hc
      cases h1 : x.kind == 0
      · have HM : Hid (S = cap2 (n * (prodR E (E.drop (k + 1)) * facL E 0))) := HN.out.trans (by rw [prodR_not h1])
        go_wp2_with fail
        go_roundw
        case measure => simp [intOf]; omega
        case rel => exact ⟨k + 1, n, by omega, by go_num, rfl, hn0, HM.out, hb.alloc hsz _⟩
      · have hwl := wrs_len E 0 x.loc
        have HM0 : Hid (S = cap2 (n * ((1 + (wrs E 0 x.loc).length) * (prodR E (E.drop (k + 1)) * facL E 0)))) := HN.out.trans (by rw [prodR_read h1, Nat.mul_assoc])
        generalize hW : wrs E 0 x.loc = W at hwl HM0
        have HW : Hid (wrs E 0 x.loc = W) := hW
        clear hW
        generalize hL : (-1 :: W).length = L
        have hLe : L = 1 + W.length := by rw [← hL]; simp; omega
        have HL : Hid ((-1 :: W).length = L) := hL
        have hL97 : L ≤ 97 := by omega
        rw [← hLe] at HM0
        obtain ⟨hm1, hm2⟩ := @mul_bd n L 2001 97 hn0 hL97
        have HM : Hid (S = cap2 (cap2 (n * L) * (prodR E (E.drop (k + 1)) * facL E 0))) := cap_step HM0.out (Nat.mul_le_mul (prodR_pos _ _) (facL_pos _ _))
        have EC : Hid ((n : Int) * (L : Int) = ((n * L : Nat) : Int)) := by simp [Hid]
        clear hL hLe
        go_wp2_with (first
          | (go_at_call 131; refine (sources_any E hE x.loc _ _ (HE.out.keep (hb.alloc hsz _))).mono ?_; rw [HW.out]; rintro e w3 ⟨u2, rfl, hu2, hb3⟩; obtain ⟨ao4, b4, off4, cap4, ⟨hv4, _, _, _⟩, _⟩ := hu2; subst hv4; rw [HL.out])
          | (go_at_call 150; rw [EC.out]; refine (capped_any _ _).mono ?_; rintro e w4 ⟨rfl, rfl⟩))
        go_roundw
        case measure => simp [intOf]; omega
        case rel => exact ⟨k + 1, _, by omega, by go_num, rfl, cap2_le _, HM.out, below_more (hb.alloc hsz _) hb3⟩
    · have HM : Hid (S = cap2 (n * facL E 0)) := hn.out.trans (by rw [drop_nil hlt]; simp [prodR])
      clear hn hc ha
      go_wp2_with fail
      go_loopw [3, 7] (fun u i wr => ∃ (j n : Nat), j ≤ 3 ∧ i = .int .i64 j ∧ u = .int .i64 n ∧ n ≤ 2001 ∧ Hid (S = cap2 (n * facL E j)) ∧ Below w.heap.size w wr) (fun _ i _ => 3 - (intOf i).toNat)
      case atStart => exact ⟨0, n, by omega, rfl, rfl, hn0, HM.out, hb⟩
      case round =>
        clear HM hb hn0 hsz
        obtain ⟨j, n2, hj, rfl, rfl, hn0, hn, hb⟩ := hrel
        by_cases hlt2 : j < 3
        · have HM : Hid (S = cap2 (n2 * (fac (wrs E 0 (j : Int)).length * facL E (j + 1)))) := hn.out.trans (by rw [facL_step E j hlt2])
          have hwl := wrs_len E 0 (j : Int)
          generalize hW : wrs E 0 (j : Int) = W at hwl HM
          have HW : Hid (wrs E 0 (j : Int) = W) := hW
          clear hW hn
          go_wp2_with (go_at_call 133; refine (writesP_any E hE j _ _ (HE.out.keep hb)).mono ?_; rw [HW.out]; rintro e w3 ⟨u2, rfl, hu2, hb3⟩; obtain ⟨ao4, b4, off4, cap4, ⟨hv4, ha4, _, hc4⟩, hb4⟩ := hu2; subst hv4)
          have hb5 := below_more hb hb3
          clear hb3 hc4 ha4
          go_loop [3, 9] (fun u i => ∃ (k n : Nat), k ≤ 96 ∧ i = .int .i64 k ∧ u = .int .i64 n ∧ n ≤ 2001 ∧ Hid (S = cap2 (n * (fac k * facL E (j + 1))))) (fun _ i => (intOf i).toNat)
          case atStart => exact ⟨W.length, n2, by omega, rfl, rfl, hn0, HM.out⟩
          case round =>
            clear HM hn0
            obtain ⟨k2, n3, hk98, rfl, rfl, hn0, hn⟩ := hrel
            by_cases hlt3 : 0 < k2
            · obtain ⟨k3, rfl⟩ : ∃ k3, k2 = k3 + 1 := ⟨k2 - 1, by omega⟩
              have HM0 : Hid (S = cap2 (cap2 (n3 * (k3 + 1)) * (fac k3 * facL E (j + 1)))) := cap_step (hn.out.trans (by rw [fac, Nat.mul_assoc])) (Nat.mul_le_mul (fac_pos _) (facL_pos _ _))
              obtain ⟨hm1, hm2⟩ := @mul_bd n3 (k3 + 1) 2001 98 hn0 (by omega)
              have EC : Hid ((n3 : Int) * ((k3 : Int) + 1) = ((n3 * (k3 + 1) : Nat) : Int)) := by simp [Hid]
              rw [show ((k3 + 1 : Nat) : Int) = (k3 : Int) + 1 by simp] at hm1 hm2
              clear hn
              go_wp2_with (go_at_call 150; rw [EC.out]; refine (capped_any _ _).mono ?_; rintro e w4 ⟨rfl, rfl⟩)
              go_round
              case measure => simp [intOf]
              case rel => exact ⟨k3, _, by omega, by go_num, rfl, cap2_le _, HM0.out⟩
            · have e0 : k2 = 0 := by omega
              subst e0
              have HM1 : Hid (S = cap2 (n3 * facL E (j + 1))) := hn.out.trans (by rw [fac, Nat.one_mul])
              clear hn
              go_wp2_with fail
              go_roundw
              case measure => simp [intOf]; omega
              case rel => exact ⟨j + 1, n3, by omega, by go_num, rfl, hn0, HM1.out, hb5⟩
        · have e3 : j = 3 := by omega
          subst e3
          have HR : Hid (S = n2) := by rw [hn.out, facL_three, Nat.mul_one]; exact cap2_of_le hn0
          clear hn
          go_wp2_with fail
          go_ret
          exact ⟨by rw [HR.out]; rfl, hb⟩

end Go.Proofs.YtomijmikkbhgmaaGreat

namespace Go.Proofs.YtomijmikkbhgmaaGreat
open Go.RowKit

def faultM (b : Bool) : Value := .agg #[.int .i64 (if b then 5 else 0), .int .i64 0]

theorem cntK_hit {k : Int} {x : Evt} (h : (x.kind == k) = true) (R : List Evt) : cntK k (x :: R) = 1 + cntK k R := by
  unfold cntK; rw [List.filter_cons, if_pos h, List.length_cons]; omega
theorem cntK_mis {k : Int} {x : Evt} (h : (x.kind == k) = false) (R : List Evt) : cntK k (x :: R) = cntK k R := by
  unfold cntK; rw [List.filter_cons, if_neg (by simp [h])]

set_option maxHeartbeats 2000000 in
theorem findMany_any (T : List (List Ins)) (vt : Value) (w : World) (ht : ThrAt w vt T) (h2 : T.length ≤ 4) (hL : lensB T = true) :
    Calls Tryz.prog 84 #[vt] w fun e w' => e = .returned (faultM (manyB T)) ∧ Below w.heap.size w w' := by
  have hEl : (evsT T 0).length ≤ 96 := by have := evsT_len T 0 hL; omega
  have hA : cntK 2 (evsT T 0) = cntO 5 T := cntK_evsT 5 2 kinds_enter T 0
  have hB : cntK 4 (evsT T 0) = cntO 7 T := cntK_evsT 7 4 kinds_sync T 0
  have hM : manyB T = (decide (3 < cntK 2 (evsT T 0)) || decide (2 < cntK 4 (evsT T 0)) || decide (2000 < cap2 (sizeN (evsT T 0)))) := by rw [hA, hB]; rfl
  have HT : Hid (ThrAt w vt T) := ht
  have HL : Hid (lensB T = true) := hL
  clear ht hL hA hB
  generalize hE : evsT T 0 = E at hEl hM
  have HE : Hid (evsT T 0 = E) := hE
  have HM : Hid (manyB T = (decide (3 < cntK 2 E) || decide (2 < cntK 4 E) || decide (2000 < cap2 (sizeN E)))) := hM
  clear hM hE
  generalize hmb : manyB T = mb at HM
  clear hmb
  go_enter Tryz.func84, Tryz.ntmps84
  go_wp2_with (go_at_call 39; refine (list_any T _ _ (HT.out.keep (below_alloc _ _)) h2 HL.out).mono ?_; rw [HE.out]; rintro e w3 ⟨u2, rfl, hu2, hb3⟩; have HU : Hid (Ev4At w3 u2 E) := hu2; obtain ⟨ao, b, off, cap, hv4, ha, _, hc⟩ := hu2; subst hv4)
  rw [World.size_alloc] at hb3
  go_loopw [4, 5, 12] (fun u s i wr => ∃ (k n m : Nat), k ≤ E.length ∧ i = .int .i64 k ∧ u = .int .i64 n ∧ s = .int .i64 m ∧ n ≤ k ∧ m ≤ k ∧ Hid (cntK 2 E = n + cntK 2 (E.drop k) ∧ cntK 4 E = m + cntK 4 (E.drop k)) ∧ Below w3.heap.size w3 wr) (fun _ _ i _ => E.length - (intOf i).toNat)
  case atStart => exact ⟨0, 0, 0, Nat.zero_le _, rfl, rfl, rfl, Nat.le_refl _, Nat.le_refl _, ⟨(Nat.zero_add _).symm, (Nat.zero_add _).symm⟩, Below.refl _ _⟩
  case round =>
    obtain ⟨k, n, m, hk, rfl, rfl, rfl, hnk, hmk, hn, hb⟩ := hrel
    have hsz := hb.size
    have hs3 := hb3.size
    simp only [World.size_alloc] at hs3
    by_cases hlt : k < E.length
    · obtain ⟨x, hx⟩ := get_of_lt hlt
      have hC := hc k x hx
      have hbl := hC.lt
      obtain rfl := ha (ne_nil hlt)
      obtain ⟨c0, c1, c2, c3⟩ := ev4C_keeps _ _ _ _ _ hb hC
      have HN : Hid (cntK 2 E = n + cntK 2 (x :: E.drop (k + 1)) ∧ cntK 4 E = m + cntK 4 (x :: E.drop (k + 1))) := by rw [← drop_cons hx]; exact hn
      have HC : Hid (∀ k x, E[k]? = some x → Ev4C w3 b (off + k * 4) x) := hc
      clear hn hC ha hx hc
      cases h1 : x.kind == 2
      · cases h4 : x.kind == 4
        · have HM1 : Hid (cntK 2 E = n + cntK 2 (E.drop (k + 1)) ∧ cntK 4 E = m + cntK 4 (E.drop (k + 1))) := ⟨HN.out.1.trans (by rw [cntK_mis h1]), HN.out.2.trans (by rw [cntK_mis h4])⟩
          go_wp2_with fail
          go_roundw
          case measure => simp [intOf]; omega
          case rel => exact ⟨k + 1, n, m, by omega, by go_num, rfl, rfl, by omega, by omega, HM1.out, hb.alloc hsz _⟩
        · have HM1 : Hid (cntK 2 E = n + cntK 2 (E.drop (k + 1)) ∧ cntK 4 E = (m + 1) + cntK 4 (E.drop (k + 1))) := ⟨HN.out.1.trans (by rw [cntK_mis h1]), HN.out.2.trans (by rw [cntK_hit h4]; omega)⟩
          go_wp2_with fail
          go_roundw
          case measure => simp [intOf]; omega
          case rel => exact ⟨k + 1, n, m + 1, by omega, by go_num, rfl, by go_num, by omega, by omega, HM1.out, hb.alloc hsz _⟩
      · have h4 : (x.kind == 4) = false := by rw [beq_iff_eq] at h1; rw [h1]; rfl
        have HM1 : Hid (cntK 2 E = (n + 1) + cntK 2 (E.drop (k + 1)) ∧ cntK 4 E = m + cntK 4 (E.drop (k + 1))) := ⟨HN.out.1.trans (by rw [cntK_hit h1]; omega), HN.out.2.trans (by rw [cntK_mis h4])⟩
        go_wp2_with fail
        go_roundw
        case measure => simp [intOf]; omega
        case rel => exact ⟨k + 1, n + 1, m, by omega, by go_num, by go_num, rfl, by omega, by omega, HM1.out, hb.alloc hsz _⟩
    · have e1 : cntK 2 E = n := hn.out.1.trans (by rw [drop_nil hlt]; rfl)
      have e2 : cntK 4 E = m := hn.out.2.trans (by rw [drop_nil hlt]; rfl)
      have HM2 : Hid (mb = (decide (3 < n) || decide (2 < m) || decide (2000 < cap2 (sizeN E)))) := by rw [← e1, ← e2]; exact HM
      clear hn hc ha e1 e2 HM
      have hb4 : Below (w.heap.size + 1) (w.alloc (.cells #[.int .i64 0, .int .i64 0] 84)) wr := hb3.trans (hb.mono (by omega))
      obtain ⟨d0, d1, f0, f1, s3⟩ := own2 hb4
      have hbF : Below w.heap.size w wr := (below_alloc _ _).trans (hb4.mono (by omega))
      by_cases h3 : 3 < n
      · have HF : Hid (mb = true) := HM2.out.trans (by simp [h3])
        go_wp2_with fail
        exact bodyPost_ret (v := .agg #[.int .i64 5, .int .i64 0]) (by simp [results, Tryz.results84, go_sem, *]) rfl
          ⟨by rw [HF.out]; rfl, (hbF.setCell (Nat.le_refl _) _).setCell (Nat.le_refl _) _⟩
      · by_cases h5 : 2 < m
        · have HF : Hid (mb = true) := HM2.out.trans (by simp [h5])
          go_wp2_with fail
          exact bodyPost_ret (v := .agg #[.int .i64 5, .int .i64 0]) (by simp [results, Tryz.results84, go_sem, *]) rfl
            ⟨by rw [HF.out]; rfl, (hbF.setCell (Nat.le_refl _) _).setCell (Nat.le_refl _) _⟩
        · have HM3 : Hid (mb = decide (2000 < cap2 (sizeN E))) := HM2.out.trans (by simp [h3, h5])
          generalize hcs : cap2 (sizeN E) = cs at HM3
          have HCS : Hid (cap2 (sizeN E) = cs) := hcs
          clear hcs HM2
          by_cases h6 : 2000 < cs
          · have HF : Hid (mb = true) := HM3.out.trans (by simp [h6])
            go_wp2_with (go_at_call 118; refine (countP_any E hEl _ _ (HU.out.keep hb)).mono ?_; rw [HCS.out]; rintro e w5 ⟨rfl, hb5⟩; have hb6 := hb4.trans (hb5.mono (by omega)); clear d0 d1 f0 f1 s3; obtain ⟨d0, d1, f0, f1, s3⟩ := own2 hb6)
            exact bodyPost_ret (v := .agg #[.int .i64 5, .int .i64 0]) (by simp [results, Tryz.results84, go_sem, *]) rfl
              ⟨by rw [HF.out]; rfl, (((below_alloc _ _).trans (hb6.mono (by omega))).setCell (Nat.le_refl _) _).setCell (Nat.le_refl _) _⟩
          · have HF : Hid (mb = false) := HM3.out.trans (by simp [h6])
            go_wp2_with (go_at_call 118; refine (countP_any E hEl _ _ (HU.out.keep hb)).mono ?_; rw [HCS.out]; rintro e w5 ⟨rfl, hb5⟩; have hb6 := hb4.trans (hb5.mono (by omega)); clear d0 d1 f0 f1 s3; obtain ⟨d0, d1, f0, f1, s3⟩ := own2 hb6)
            exact bodyPost_ret (v := .agg #[.int .i64 0, .int .i64 0]) (by simp [results, Tryz.results84, go_sem, *]) rfl
              ⟨by rw [HF.out]; rfl, (((below_alloc _ _).trans (hb6.mono (by omega))).setCell (Nat.le_refl _) _).setCell (Nat.le_refl _) _⟩

end Go.Proofs.YtomijmikkbhgmaaGreat

namespace Go.Proofs.YtomijmikkbhgmaaGreat
open Go.RowKit

/-- Find's own memory: the boxed test, the result, the fault so far. -/
structure FindSt (w w' : World) (vt vc : Value) (fa : Bool) (B : Nat) (e p : Int) : Prop where
  below : Below w.heap.size w w'
  b0 : w'.cell? ⟨w.heap.size, 0, none⟩ = some vt
  b1 : w'.cell? ⟨w.heap.size, 1, none⟩ = some (.bool fa)
  b2 : w'.cell? ⟨w.heap.size, 2, none⟩ = some vc
  r0 : w'.cell? ⟨w.heap.size + 1, 0, none⟩ = some (.int .i64 0)
  r1 : w'.cell? ⟨w.heap.size + 1, 1, none⟩ = some (.int .i64 0)
  q0 : w'.frozen? ⟨w.heap.size + 1, 0, none⟩ = false
  q1 : w'.frozen? ⟨w.heap.size + 1, 1, none⟩ = false
  f0 : w'.cell? ⟨B, 0, none⟩ = some (.int .i64 e)
  f1 : w'.cell? ⟨B, 1, none⟩ = some (.int .i64 p)
  z0 : w'.frozen? ⟨B, 0, none⟩ = false
  z1 : w'.frozen? ⟨B, 1, none⟩ = false
  lt : w.heap.size + 1 < B
  lb : B < w'.heap.size

theorem keep_frozen {w w' : World} (hb : Below w.heap.size w w') {b off : Nat} {v : Value} (h : w.cell? ⟨b, off, none⟩ = some v) : w'.frozen? ⟨b, off, none⟩ = w.frozen? ⟨b, off, none⟩ :=
  hb.frozen (p := ⟨b, off, none⟩) (World.block_lt_of_cell? w _ h)

theorem FindSt.keep {w w' w'' : World} {vt vc : Value} {fa : Bool} {B : Nat} {e p : Int} (h : FindSt w w' vt vc fa B e p) (hb : Below w'.heap.size w' w'') : FindSt w w'' vt vc fa B e p :=
  ⟨below_more h.below hb, keep_cell hb h.b0, keep_cell hb h.b1, keep_cell hb h.b2, keep_cell hb h.r0, keep_cell hb h.r1, (keep_frozen hb h.r0).trans h.q0, (keep_frozen hb h.r1).trans h.q1, keep_cell hb h.f0, keep_cell hb h.f1,
    (keep_frozen hb h.f0).trans h.z0, (keep_frozen hb h.f1).trans h.z1, h.lt, Nat.lt_of_lt_of_le h.lb hb.size⟩

theorem FindSt.init {w w3 : World} {vt vc : Value} {fa : Bool} {t u : TypeId} (hb : Below (w.heap.size + 2) ((w.alloc (.cells #[vt, .bool fa, vc] t)).alloc (.cells #[.int .i64 0, .int .i64 0] u)) w3) (e p : Int) :
    FindSt w (w3.alloc (.cells #[.int .i64 e, .int .i64 p] u)) vt vc fa w3.heap.size e p := by
  obtain ⟨g0, g1, g2, d0, d1, f0, f1, s2, s3⟩ := own5 hb
  have k := below_alloc w3 (.cells #[.int .i64 e, .int .i64 p] u)
  exact ⟨below_more ((below_two _ _ _).trans (hb.mono (by omega))) k, keep_cell k g0, keep_cell k g1, keep_cell k g2, keep_cell k d0, keep_cell k d1, (keep_frozen k d0).trans f0, (keep_frozen k d1).trans f1, by simp, by simp, by simp, by simp, s3, by simp⟩

theorem cell_set {w : World} {p : Addr} {u v : Value} {b o : Nat} (h : w.cell? ⟨b, o, none⟩ = some v) (hne : b ≠ p.block) : (w.setCell p u).cell? ⟨b, o, none⟩ = some v :=
  (World.cell?_of_block (w := w) (Below.heap_setCell _ _ _ _ hne)).trans h
theorem frozen_set {w : World} {p : Addr} {u : Value} {b o : Nat} (hne : b ≠ p.block) : (w.setCell p u).frozen? ⟨b, o, none⟩ = w.frozen? ⟨b, o, none⟩ :=
  World.frozen?_of_block (w := w) (Below.heap_setCell _ _ _ _ hne)

theorem FindSt.set {w w' : World} {vt vc : Value} {fa : Bool} {B : Nat} {e p : Int} (h : FindSt w w' vt vc fa B e p) (e' p' : Int) :
    FindSt w ((w'.setCell ⟨B, 0, none⟩ (.int .i64 e')).setCell ⟨B, 1, none⟩ (.int .i64 p')) vt vc fa B e' p' := by
  have h1 := h.lt
  have n0 : w.heap.size ≠ B := by omega
  have n1 : w.heap.size + 1 ≠ B := by omega
  have f0 := h.f0; have f1 := h.f1; have z0 := h.z0; have z1 := h.z1
  refine ⟨(h.below.setCell (by simp; omega) _).setCell (by simp; omega) _, cell_set (cell_set h.b0 n0) n0, cell_set (cell_set h.b1 n0) n0, cell_set (cell_set h.b2 n0) n0, cell_set (cell_set h.r0 n1) n1, cell_set (cell_set h.r1 n1) n1,
    ((frozen_set n1).trans (frozen_set n1)).trans h.q0, ((frozen_set n1).trans (frozen_set n1)).trans h.q1, ?_, ?_, ?_, ?_, h.lt, by simpa [World.setCell] using h.lb⟩
  all_goals simp [go_sem, *]

theorem chk_size {T : List (List Ins)} {c : List Atm} (h : sizeB T c = false) : chk T c = (1, 0) := by unfold chk; rw [if_neg (by simp [h])]
theorem chk_ins {T : List (List Ins)} {c : List Atm} {p : Nat} (h : sizeB T c = true) (hi : insF T 0 = some p) : chk T c = (2, (p : Int)) := by unfold chk; rw [if_pos h, hi]
theorem chk_nst {T : List (List Ins)} {c : List Atm} {p : Int} (h : sizeB T c = true) (hi : insF T 0 = none) (hn : nstF T 0 = some p) : chk T c = (3, p) := by unfold chk; rw [if_pos h, hi, hn]
theorem chk_atm {T : List (List Ins)} {c : List Atm} {p : Nat} (h : sizeB T c = true) (hi : insF T 0 = none) (hn : nstF T 0 = none) (ha : atmF c 0 T.length = some p) : chk T c = (4, (p : Int)) := by unfold chk; rw [if_pos h, hi, hn, ha]
theorem chk_many {T : List (List Ins)} {c : List Atm} (h : sizeB T c = true) (hi : insF T 0 = none) (hn : nstF T 0 = none) (ha : atmF c 0 T.length = none) (hm : manyB T = true) : chk T c = (5, 0) := by unfold chk; rw [if_pos h, hi, hn, ha, if_pos hm]
theorem chk_ok {T : List (List Ins)} {c : List Atm} (h : sizeB T c = true) (hi : insF T 0 = none) (hn : nstF T 0 = none) (ha : atmF c 0 T.length = none) (hm : manyB T = false) : chk T c = (0, 0) := by unfold chk; rw [if_pos h, hi, hn, ha, if_neg (by simp [hm])]

theorem sizeB_parts {T : List (List Ins)} {c : List Atm} (h : sizeB T c = true) : T.length ≤ 4 ∧ lensB T = true ∧ c.length ≤ 6 := by
  unfold sizeB at h
  simp only [Bool.and_eq_true, decide_eq_true_eq] at h
  exact ⟨h.1.1.2, h.1.2, h.2⟩

theorem below_set {w w' : World} {b o : Nat} {u : Value} (h : Below w.heap.size w w') (hb : w.heap.size ≤ b) : Below w.heap.size w (w'.setCell ⟨b, o, none⟩ u) := h.setCell hb u

def fault2 (q : Int × Int) : Value := .agg #[.int .i64 q.1, .int .i64 q.2]

set_option maxHeartbeats 4000000 in
theorem find_any (T : List (List Ins)) (fa : Bool) (c : List Atm) (v vt vc : Value) (w : World) (h : TestAt w v T fa c vt vc) :
    Calls Tryz.prog 43 #[v] w fun e w' => e = .returned (fault2 (chk T c)) ∧ Below w.heap.size w w' := by
  have HT : Hid (TestAt w v T fa c vt vc) := h
  obtain ⟨hv, _, _⟩ := h
  subst hv
  generalize hq : chk T c = q
  have HQ : Hid (chk T c = q) := hq
  clear hq
  go_enter Tryz.func43, Tryz.ntmps43
  go_wp2_with fail
  refine (findSize_any T fa c _ vt vc _ (HT.out.keep (below_two _ _ _))).mono ?_
  rintro e w3 ⟨rfl, hb3⟩
  simp only [World.size_alloc] at hb3
  obtain ⟨g0, g1, g2, d0, d1, f0, f1, s2, s3⟩ := own5 hb3
  have HB3 : Hid (Below (w.heap.size + 2) ((w.alloc (.cells #[vt, .bool fa, vc] 25)).alloc (.cells #[.int .i64 0, .int .i64 0] 84)) w3) := hb3
  clear hb3
  cases hs : sizeB T c
  · have HF : Hid (q = (1, 0)) := HQ.out.symm.trans (chk_size hs)
    clear HQ hs
    rw [show faultS false = .agg #[.int .i64 1, .int .i64 0] from rfl]
    go_wp2_with fail
    exact bodyPost_ret (v := .agg #[.int .i64 1, .int .i64 0]) (by simp [results, Tryz.results43, go_sem, *]) rfl
      ⟨by rw [HF.out]; rfl, (below_set (below_set ((below_two _ _ _).trans (HB3.out.mono (by omega))) (by omega)) (by omega)).alloc (by simp [World.setCell]; omega) _⟩
  · have HSB : Hid (T.length ≤ 4 ∧ lensB T = true ∧ c.length ≤ 6) := sizeB_parts hs
    have HSZ : Hid (sizeB T c = true) := hs
    clear hs
    rw [show faultS true = .agg #[.int .i64 0, .int .i64 0] from rfl]
    go_wp2_with fail
    have S4 := FindSt.init HB3.out 0 0
    refine (findInstr_any T vt _ (HT.out.ht.keep S4.below) HSB.out.1 HSB.out.2.1).mono ?_
    rintro e w5 ⟨rfl, hb5⟩
    have S5 := S4.keep hb5
    clear S4 hb5 g0 g1 g2 d0 d1 f0 f1 HB3
    generalize w3.heap.size = B at S5 ⊢
    have HS5 : Hid (FindSt w w5 vt vc fa B 0 0) := S5
    obtain ⟨-, b0, b1, b2, r0, r1, q0, q1, y0, y1, z0, z1, l1, l2⟩ := S5
    cases hins : insF T 0 with
    | some p =>
      have HF : Hid (q = (2, (p : Int))) := HQ.out.symm.trans (chk_ins HSZ.out hins)
      clear HQ hins
      rw [show faultO 2 (some p) = .agg #[.int .i64 2, .int .i64 p] from rfl]
      go_wp2_with fail
      exact bodyPost_ret (v := .agg #[.int .i64 2, .int .i64 p]) (by simp [results, Tryz.results43, go_sem, *]) rfl
        ⟨by rw [HF.out]; rfl, below_set (below_set (below_set (below_set HS5.out.below (by omega)) (by omega)) (by omega)) (by omega)⟩
    | none =>
      have HIN : Hid (insF T 0 = none) := hins
      clear hins
      rw [show faultO 2 none = .agg #[.int .i64 0, .int .i64 0] from rfl]
      go_wp2_with fail
      have S6 := HS5.out.set 0 0
      refine (findNest_any T vt _ (HT.out.ht.keep S6.below) HSB.out.1 HSB.out.2.1).mono ?_
      rintro e w7 ⟨rfl, hb7⟩
      have S7 := S6.keep hb7
      clear S6 hb7 b0 b1 b2 r0 r1 q0 q1 y0 y1 z0 z1 l1 l2 HS5
      have HS7 : Hid (FindSt w w7 vt vc fa B 0 0) := S7
      obtain ⟨-, b0, b1, b2, r0, r1, q0, q1, y0, y1, z0, z1, l1, l2⟩ := S7
      cases hnst : nstF T 0 with
      | some p =>
        have HF : Hid (q = (3, p)) := HQ.out.symm.trans (chk_nst HSZ.out HIN.out hnst)
        clear HQ hnst
        rw [show faultI 3 (some p) = .agg #[.int .i64 3, .int .i64 p] from rfl]
        go_wp2_with fail
        exact bodyPost_ret (v := .agg #[.int .i64 3, .int .i64 p]) (by simp [results, Tryz.results43, go_sem, *]) rfl
          ⟨by rw [HF.out]; rfl, below_set (below_set (below_set (below_set HS7.out.below (by omega)) (by omega)) (by omega)) (by omega)⟩
      | none =>
        have HNS : Hid (nstF T 0 = none) := hnst
        clear hnst
        rw [show faultI 3 none = .agg #[.int .i64 0, .int .i64 0] from rfl]
        go_wp2_with fail
        have S8 := HS7.out.set 0 0
        refine (findCond_any T fa c _ vt vc _ (HT.out.keep S8.below) HSB.out.1 HSB.out.2.2).mono ?_
        rintro e w9 ⟨rfl, hb9⟩
        have S9 := S8.keep hb9
        clear S8 hb9 b0 b1 b2 r0 r1 q0 q1 y0 y1 z0 z1 l1 l2 HS7
        have HS9 : Hid (FindSt w w9 vt vc fa B 0 0) := S9
        obtain ⟨-, b0, b1, b2, r0, r1, q0, q1, y0, y1, z0, z1, l1, l2⟩ := S9
        cases hat : atmF c 0 T.length with
        | some p =>
          have HF : Hid (q = (4, (p : Int))) := HQ.out.symm.trans (chk_atm HSZ.out HIN.out HNS.out hat)
          clear HQ hat
          rw [show faultO 4 (some p) = .agg #[.int .i64 4, .int .i64 p] from rfl]
          go_wp2_with fail
          exact bodyPost_ret (v := .agg #[.int .i64 4, .int .i64 p]) (by simp [results, Tryz.results43, go_sem, *]) rfl
            ⟨by rw [HF.out]; rfl, below_set (below_set (below_set (below_set HS9.out.below (by omega)) (by omega)) (by omega)) (by omega)⟩
        | none =>
          have HAT : Hid (atmF c 0 T.length = none) := hat
          clear hat
          rw [show faultO 4 none = .agg #[.int .i64 0, .int .i64 0] from rfl]
          go_wp2_with fail
          have S10 := HS9.out.set 0 0
          refine (findMany_any T vt _ (HT.out.ht.keep S10.below) HSB.out.1 HSB.out.2.1).mono ?_
          rintro e w11 ⟨rfl, hb11⟩
          have S11 := S10.keep hb11
          clear S10 hb11 b0 b1 b2 r0 r1 q0 q1 y0 y1 z0 z1 l1 l2 HS9
          have HS11 : Hid (FindSt w w11 vt vc fa B 0 0) := S11
          obtain ⟨-, b0, b1, b2, r0, r1, q0, q1, y0, y1, z0, z1, l1, l2⟩ := S11
          cases hmn : manyB T
          · have HF : Hid (q = (0, 0)) := HQ.out.symm.trans (chk_ok HSZ.out HIN.out HNS.out HAT.out hmn)
            clear HQ hmn
            rw [show faultM false = .agg #[.int .i64 0, .int .i64 0] from rfl]
            go_wp2_with fail
            exact bodyPost_ret (v := .agg #[.int .i64 0, .int .i64 0]) (by simp [results, Tryz.results43, go_sem, *]) rfl
              ⟨by rw [HF.out]; rfl, below_set (below_set (below_set (below_set HS11.out.below (by omega)) (by omega)) (by omega)) (by omega)⟩
          · have HF : Hid (q = (5, 0)) := HQ.out.symm.trans (chk_many HSZ.out HIN.out HNS.out HAT.out hmn)
            clear HQ hmn
            rw [show faultM true = .agg #[.int .i64 5, .int .i64 0] from rfl]
            go_wp2_with fail
            exact bodyPost_ret (v := .agg #[.int .i64 5, .int .i64 0]) (by simp [results, Tryz.results43, go_sem, *]) rfl
              ⟨by rw [HF.out]; rfl, below_set (below_set (below_set (below_set HS11.out.below (by omega)) (by omega)) (by omega)) (by omega)⟩

end Go.Proofs.YtomijmikkbhgmaaGreat
