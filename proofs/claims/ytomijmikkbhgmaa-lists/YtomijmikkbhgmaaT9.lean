import Derived.Test.YtomijmikkbhgmaaT3
import Derived.Test.YtomijmikkbhgmaaT8
namespace Go.Proofs.Ytomijmikkbhgmaa
open Go.RowKit

theorem ret_cap {S n : Nat} (h : cap2 S = n) : Ending.returned (.int .i64 (n : Nat)) = .returned (.int .i64 (cap2 S : Nat)) := by rw [h]

set_option maxHeartbeats 2000000 in
theorem size_any (E : List Evt) (hE : E.length ≤ 96) (v : Value) (w : World) (h : Ev9At w v E) :
    Calls Try.prog 38 #[v] w fun e w' => e = .returned (.int .i64 (cap2 (sizeN E) : Nat)) ∧ Below w.heap.size w w' := by
  have HE : Hid (Ev9At w v E) := h
  obtain ⟨ao, b, off, cap, hv, ha, _, hc⟩ := h
  subst hv
  generalize hS : sizeN E = S
  have HS : Hid (sizeN E = S) := hS
  clear hS
  go_enter Try.func38, Try.ntmps38
  go_wp2_with fail
  go_loopw [3, 4] (fun u i wr => ∃ (k n : Nat), k ≤ E.length ∧ i = .int .i64 k ∧ u = .int .i64 n ∧ n ≤ 2000 ∧ Hid (S = n * (prodR E (E.drop k) * facL E 0)) ∧ Below w.heap.size w wr) (fun _ i _ => E.length - (intOf i).toNat)
  case atStart => exact ⟨0, 1, Nat.zero_le _, rfl, rfl, by omega, by rw [Nat.one_mul, List.drop_zero, ← sizeN_eq, HS.out]; exact rfl, Below.refl _ _⟩
  case round =>
    obtain ⟨k, n, hk, rfl, rfl, hn0, hn, hb⟩ := hrel
    by_cases hlt : k < E.length
    · obtain ⟨x, hx⟩ := get_of_lt hlt
      have hC := hc k x hx
      have hbl := hC.lt
      obtain rfl := ha (ne_nil hlt)
      obtain ⟨_, _, c2, c3, _, _, _, _, _⟩ := ev9C_keeps _ _ _ _ _ hb hC
      have HN : Hid (S = n * (prodR E (x :: E.drop (k + 1)) * facL E 0)) := by rw [← drop_cons hx]; exact hn
      clear hn hC ha hx
      have HC : Hid (∀ k x, E[k]? = some x → Ev9C w b (off + k * 9) x) := hc
      clear hc
      cases h1 : x.kind == 0
      · have HM : Hid (S = n * (prodR E (E.drop (k + 1)) * facL E 0)) := HN.out.trans (by rw [prodR_not h1])
        go_wp2_with fail
        go_roundw
        case measure => simp [intOf]; omega
        case rel => exact ⟨k + 1, n, by omega, by go_num, rfl, hn0, HM.out, hb⟩
      · have hwl := wrs_len E 0 x.loc
        have HM0 : Hid (S = n * ((1 + (wrs E 0 x.loc).length) * (prodR E (E.drop (k + 1)) * facL E 0))) := HN.out.trans (by rw [prodR_read h1, Nat.mul_assoc])
        generalize hW : wrs E 0 x.loc = W at hwl HM0
        have HW : Hid (wrs E 0 x.loc = W) := hW
        clear hW
        have hml := @mul_bd1 n W.length 2000 96 hn0 (by omega)
        obtain ⟨hm1, hm2⟩ := hml
        have HP : Hid (1 ≤ prodR E (E.drop (k + 1)) * facL E 0) := Nat.mul_le_mul (prodR_pos _ _) (facL_pos _ _)
        by_cases hbig : 2000 < (n : Int) * (1 + (W.length : Int))
        · have HR : Hid (cap2 S = 2001) := by
            rw [HM0.out, ← Nat.mul_assoc]
            refine cap2_big ?_ HP.out
            have e : ((n * (1 + W.length) : Nat) : Int) = (n : Int) * (1 + (W.length : Int)) := by simp
            omega
          go_wp2_with (go_at_call 63; refine (writesR_any E hE x.loc _ _ (HE.out.keep hb)).mono ?_; rw [HW.out]; rintro e w3 ⟨u2, rfl, hu2, hb3⟩; obtain ⟨ao4, b4, off4, cap4, ⟨hv4, ha4, _, hc4⟩, hb4⟩ := hu2; subst hv4)
          go_ret
          exact ⟨ret_cap HR.out, below_more hb hb3⟩
        · have HM : Hid (S = (n * (1 + W.length)) * (prodR E (E.drop (k + 1)) * facL E 0)) := HM0.out.trans (by rw [Nat.mul_assoc])
          go_wp2_with (go_at_call 63; refine (writesR_any E hE x.loc _ _ (HE.out.keep hb)).mono ?_; rw [HW.out]; rintro e w3 ⟨u2, rfl, hu2, hb3⟩; obtain ⟨ao4, b4, off4, cap4, ⟨hv4, ha4, _, hc4⟩, hb4⟩ := hu2; subst hv4)
          go_roundw
          case measure => simp [intOf]; omega
          case rel => exact ⟨k + 1, n * (1 + W.length), by omega, by go_num, by simp, by
              have e : ((n * (1 + W.length) : Nat) : Int) = (n : Int) * (1 + (W.length : Int)) := by simp
              omega, HM.out, below_more hb hb3⟩
    · have HM : Hid (S = n * facL E 0) := hn.out.trans (by rw [drop_nil hlt]; simp [prodR])
      clear hn hc ha
      go_wp2_with fail
      go_loopw [3, 6] (fun u i wr => ∃ (j n : Nat), j ≤ 3 ∧ i = .int .i64 j ∧ u = .int .i64 n ∧ n ≤ 2000 ∧ Hid (S = n * facL E j) ∧ Below w.heap.size w wr) (fun _ i _ => 3 - (intOf i).toNat)
      case atStart => exact ⟨0, n, by omega, rfl, rfl, hn0, HM.out, hb⟩
      case round =>
        clear HM hb hn0
        obtain ⟨j, n2, hj, rfl, rfl, hn0, hn, hb⟩ := hrel
        by_cases hlt2 : j < 3
        · have HM : Hid (S = n2 * (fac (wrs E 0 (j : Int)).length * facL E (j + 1))) := hn.out.trans (by rw [facL_step E j hlt2])
          have hwl := wrs_len E 0 (j : Int)
          generalize hW : wrs E 0 (j : Int) = W at hwl HM
          have HW : Hid (wrs E 0 (j : Int) = W) := hW
          clear hW hn
          go_wp2_with (go_at_call 63; refine (writesR_any E hE j _ _ (HE.out.keep hb)).mono ?_; rw [HW.out]; rintro e w3 ⟨u2, rfl, hu2, hb3⟩; obtain ⟨ao4, b4, off4, cap4, ⟨hv4, ha4, _, hc4⟩, hb4⟩ := hu2; subst hv4)
          have hb5 := below_more hb hb3
          clear hb3 hc4 ha4
          go_loop [3, 8] (fun u i => ∃ (k n : Nat), 2 ≤ k ∧ k ≤ 98 ∧ i = .int .i64 k ∧ u = .int .i64 n ∧ n ≤ 2000 ∧ Hid (S = n * (prodUp k (W.length + 1 - k) * facL E (j + 1)))) (fun _ i => 98 - (intOf i).toNat)
          case atStart => exact ⟨2, n2, by omega, by omega, rfl, rfl, hn0, HM.out.trans (by rw [prodUp_two])⟩
          case round =>
            clear HM hn0
            obtain ⟨k2, n3, hk2, hk98, rfl, rfl, hn0, hn⟩ := hrel
            by_cases hlt3 : k2 ≤ W.length
            · have HM0 : Hid (S = (n3 * k2) * (prodUp (k2 + 1) (W.length + 1 - (k2 + 1)) * facL E (j + 1))) := hn.out.trans (by rw [prodUp_step hlt3, Nat.mul_assoc, Nat.mul_assoc])
              obtain ⟨hm1, hm2⟩ := @mul_bd n3 k2 2000 98 hn0 (by omega)
              have HP : Hid (1 ≤ prodUp (k2 + 1) (W.length + 1 - (k2 + 1)) * facL E (j + 1)) := Nat.mul_le_mul (prodUp_pos _ _ (by omega)) (facL_pos _ _)
              have ec : ((n3 * k2 : Nat) : Int) = (n3 : Int) * (k2 : Int) := by simp
              have EC : Hid (((n3 * k2 : Nat) : Int) = (n3 : Int) * (k2 : Int)) := ec
              clear hn ec
              by_cases hbig : 2000 < (n3 : Int) * (k2 : Int)
              · have HR : Hid (cap2 S = 2001) := by
                  rw [HM0.out]
                  refine cap2_big ?_ HP.out
                  have e := EC.out
                  omega
                go_wp2_with fail
                go_ret
                exact ⟨ret_cap HR.out, hb5⟩
              · go_wp2_with fail
                go_round
                case measure => simp [intOf]; omega
                case rel => exact ⟨k2 + 1, n3 * k2, by omega, by omega, by go_num, by simp, by have e := EC.out; omega, HM0.out⟩
            · have HM1 : Hid (S = n3 * facL E (j + 1)) := hn.out.trans (by rw [prodUp_done hlt3, Nat.one_mul])
              clear hn
              go_wp2_with fail
              go_roundw
              case measure => simp [intOf]; omega
              case rel => exact ⟨j + 1, n3, by omega, by go_num, rfl, hn0, HM1.out, hb5⟩
        · have e3 : j = 3 := by omega
          subst e3
          have HR : Hid (cap2 S = n2) := by rw [hn.out, facL_three, Nat.mul_one]; exact cap2_of_le (by omega)
          clear hn
          go_wp2_with fail
          go_ret
          exact ⟨ret_cap HR.out, hb⟩

end Go.Proofs.Ytomijmikkbhgmaa

namespace Go.Proofs.Ytomijmikkbhgmaa
open Go.RowKit

theorem cap_step {S n f X : Nat} (h : S = cap2 (n * (f * X))) (hX : 1 ≤ X) : S = cap2 (cap2 (n * f) * X) := by
  rw [cap2_mul _ _ hX, Nat.mul_assoc]; exact h

set_option maxHeartbeats 2000000 in
theorem countP_any (E : List Evt) (hE : E.length ≤ 96) (v : Value) (w : World) (h : Ev4At w v E) :
    Calls Try.prog 41 #[v] w fun e w' => e = .returned (.int .i64 (cap2 (sizeN E) : Nat)) ∧ Below w.heap.size w w' := by
  have HE : Hid (Ev4At w v E) := h
  obtain ⟨ao, b, off, cap, hv, ha, _, hc⟩ := h
  subst hv
  generalize hS : cap2 (sizeN E) = S
  have HS : Hid (S = cap2 (sizeN E)) := hS.symm
  clear hS
  go_enter Try.func41, Try.ntmps41
  go_wp2_with fail
  go_loopw [3, 12] (fun u i wr => ∃ (k n : Nat), k ≤ E.length ∧ i = .int .i64 k ∧ u = .int .i64 n ∧ n ≤ 2001 ∧ Hid (S = cap2 (n * (prodR E (E.drop k) * facL E 0))) ∧ Below w.heap.size w wr) (fun _ i _ => E.length - (intOf i).toNat)
  case atStart => exact ⟨0, 1, Nat.zero_le _, rfl, rfl, by omega, by rw [Nat.one_mul, List.drop_zero, ← sizeN_eq]; exact HS.out, Below.refl _ _⟩
  case round =>
    obtain ⟨k, n, hk, rfl, rfl, hn0, hn, hb⟩ := hrel
    have hsz := hb.size
    by_cases hlt : k < E.length
    · obtain ⟨x, hx⟩ := get_of_lt hlt
      have hC := hc k x hx
      have hbl := hC.lt
      obtain rfl := ha (ne_nil hlt)
      obtain ⟨c0, c1, c2, c3⟩ := ev4C_keeps _ _ _ _ _ hb hC
      have HN : Hid (S = cap2 (n * (prodR E (x :: E.drop (k + 1)) * facL E 0))) := by rw [← drop_cons hx]; exact hn
      clear hn hC ha hx
      have HC : Hid (∀ k x, E[k]? = some x → Ev4C w b (off + k * 4) x) := hc
      clear hc
      cases h1 : x.kind == 0
      · have HM : Hid (S = cap2 (n * (prodR E (E.drop (k + 1)) * facL E 0))) := HN.out.trans (by rw [prodR_not h1])
        go_wp2_with fail
        go_roundw
        case measure => simp [intOf]; omega
        case rel => exact ⟨k + 1, n, by omega, by go_num, rfl, hn0, HM.out, hb.alloc hsz _⟩
      · have hwl := wrs_len E 0 x.loc
        have HM0 : Hid (S = cap2 (n * ((1 + (wrs E 0 x.loc).length) * (prodR E (E.drop (k + 1)) * facL E 0)))) := HN.out.trans (by rw [prodR_read h1, Nat.mul_assoc])
        generalize hW : wrs E 0 x.loc = W at hwl HM0
        have HW : Hid (wrs E 0 x.loc = W) := hW
        clear hW
        generalize hL : (-1 :: W).length = L
        have hLe : L = 1 + W.length := by rw [← hL]; simp; omega
        have HL : Hid ((-1 :: W).length = L) := hL
        have hL97 : L ≤ 97 := by omega
        rw [← hLe] at HM0
        obtain ⟨hm1, hm2⟩ := @mul_bd n L 2001 97 hn0 hL97
        have HM : Hid (S = cap2 (cap2 (n * L) * (prodR E (E.drop (k + 1)) * facL E 0))) := cap_step HM0.out (Nat.mul_le_mul (prodR_pos _ _) (facL_pos _ _))
        have EC : Hid ((n : Int) * (L : Int) = ((n * L : Nat) : Int)) := by simp [Hid]
        clear hL hLe
        go_wp2_with (first
          | (go_at_call 66; refine (sources_any E hE x.loc _ _ (HE.out.keep (hb.alloc hsz _))).mono ?_; rw [HW.out]; rintro e w3 ⟨u2, rfl, hu2, hb3⟩; obtain ⟨ao4, b4, off4, cap4, ⟨hv4, _, _, _⟩, _⟩ := hu2; subst hv4; rw [HL.out])
          | (go_at_call 67; rw [EC.out]; refine (capped_any _ _).mono ?_; rintro e w4 ⟨rfl, rfl⟩))
        go_roundw
        case measure => simp [intOf]; omega
        case rel => exact ⟨k + 1, _, by omega, by go_num, rfl, cap2_le _, HM.out, below_more (hb.alloc hsz _) hb3⟩
    · have HM : Hid (S = cap2 (n * facL E 0)) := hn.out.trans (by rw [drop_nil hlt]; simp [prodR])
      clear hn hc ha
      go_wp2_with fail
      go_loopw [3, 7] (fun u i wr => ∃ (j n : Nat), j ≤ 3 ∧ i = .int .i64 j ∧ u = .int .i64 n ∧ n ≤ 2001 ∧ Hid (S = cap2 (n * facL E j)) ∧ Below w.heap.size w wr) (fun _ i _ => 3 - (intOf i).toNat)
      case atStart => exact ⟨0, n, by omega, rfl, rfl, hn0, HM.out, hb⟩
      case round =>
        clear HM hb hn0 hsz
        obtain ⟨j, n2, hj, rfl, rfl, hn0, hn, hb⟩ := hrel
        by_cases hlt2 : j < 3
        · have HM : Hid (S = cap2 (n2 * (fac (wrs E 0 (j : Int)).length * facL E (j + 1)))) := hn.out.trans (by rw [facL_step E j hlt2])
          have hwl := wrs_len E 0 (j : Int)
          generalize hW : wrs E 0 (j : Int) = W at hwl HM
          have HW : Hid (wrs E 0 (j : Int) = W) := hW
          clear hW hn
          go_wp2_with (go_at_call 68; refine (writesP_any E hE j _ _ (HE.out.keep hb)).mono ?_; rw [HW.out]; rintro e w3 ⟨u2, rfl, hu2, hb3⟩; obtain ⟨ao4, b4, off4, cap4, ⟨hv4, ha4, _, hc4⟩, hb4⟩ := hu2; subst hv4)
          have hb5 := below_more hb hb3
          clear hb3 hc4 ha4
          go_loop [3, 9] (fun u i => ∃ (k n : Nat), k ≤ 96 ∧ i = .int .i64 k ∧ u = .int .i64 n ∧ n ≤ 2001 ∧ Hid (S = cap2 (n * (fac k * facL E (j + 1))))) (fun _ i => (intOf i).toNat)
          case atStart => exact ⟨W.length, n2, by omega, rfl, rfl, hn0, HM.out⟩
          case round =>
            clear HM hn0
            obtain ⟨k2, n3, hk98, rfl, rfl, hn0, hn⟩ := hrel
            by_cases hlt3 : 0 < k2
            · obtain ⟨k3, rfl⟩ : ∃ k3, k2 = k3 + 1 := ⟨k2 - 1, by omega⟩
              have HM0 : Hid (S = cap2 (cap2 (n3 * (k3 + 1)) * (fac k3 * facL E (j + 1)))) := cap_step (hn.out.trans (by rw [fac, Nat.mul_assoc])) (Nat.mul_le_mul (fac_pos _) (facL_pos _ _))
              obtain ⟨hm1, hm2⟩ := @mul_bd n3 (k3 + 1) 2001 98 hn0 (by omega)
              have EC : Hid ((n3 : Int) * ((k3 : Int) + 1) = ((n3 * (k3 + 1) : Nat) : Int)) := by simp [Hid]
              rw [show ((k3 + 1 : Nat) : Int) = (k3 : Int) + 1 by simp] at hm1 hm2
              clear hn
              go_wp2_with (go_at_call 67; rw [EC.out]; refine (capped_any _ _).mono ?_; rintro e w4 ⟨rfl, rfl⟩)
              go_round
              case measure => simp [intOf]
              case rel => exact ⟨k3, _, by omega, by go_num, rfl, cap2_le _, HM0.out⟩
            · have e0 : k2 = 0 := by omega
              subst e0
              have HM1 : Hid (S = cap2 (n3 * facL E (j + 1))) := hn.out.trans (by rw [fac, Nat.one_mul])
              clear hn
              go_wp2_with fail
              go_roundw
              case measure => simp [intOf]; omega
              case rel => exact ⟨j + 1, n3, by omega, by go_num, rfl, hn0, HM1.out, hb5⟩
        · have e3 : j = 3 := by omega
          subst e3
          have HR : Hid (S = n2) := by rw [hn.out, facL_three, Nat.mul_one]; exact cap2_of_le hn0
          clear hn
          go_wp2_with fail
          go_ret
          exact ⟨by rw [HR.out]; rfl, hb⟩

end Go.Proofs.Ytomijmikkbhgmaa

namespace Go.Proofs.Ytomijmikkbhgmaa
open Go.RowKit

def faultM (b : Bool) : Value := .agg #[.int .i64 (if b then 5 else 0), .int .i64 0]

theorem cntK_hit {k : Int} {x : Evt} (h : (x.kind == k) = true) (R : List Evt) : cntK k (x :: R) = 1 + cntK k R := by
  unfold cntK; rw [List.filter_cons, if_pos h, List.length_cons]; omega
theorem cntK_mis {k : Int} {x : Evt} (h : (x.kind == k) = false) (R : List Evt) : cntK k (x :: R) = cntK k R := by
  unfold cntK; rw [List.filter_cons, if_neg (by simp [h])]

set_option maxHeartbeats 2000000 in
theorem findMany_any (T : List (List Ins)) (vt : Value) (w : World) (ht : ThrAt w vt T) (h2 : T.length ≤ 4) (hL : lensB T = true) :
    Calls Try.prog 61 #[vt] w fun e w' => e = .returned (faultM (manyB T)) ∧ Below w.heap.size w w' := by
  have hEl : (evsT T 0).length ≤ 96 := by have := evsT_len T 0 hL; omega
  have hA : cntK 2 (evsT T 0) = cntO 5 T := cntK_evsT 5 2 kinds_enter T 0
  have hB : cntK 4 (evsT T 0) = cntO 7 T := cntK_evsT 7 4 kinds_sync T 0
  have hM : manyB T = (decide (3 < cntK 2 (evsT T 0)) || decide (2 < cntK 4 (evsT T 0)) || decide (2000 < cap2 (sizeN (evsT T 0)))) := by rw [hA, hB]; rfl
  have HT : Hid (ThrAt w vt T) := ht
  have HL : Hid (lensB T = true) := hL
  clear ht hL hA hB
  generalize hE : evsT T 0 = E at hEl hM
  have HE : Hid (evsT T 0 = E) := hE
  have HM : Hid (manyB T = (decide (3 < cntK 2 E) || decide (2 < cntK 4 E) || decide (2000 < cap2 (sizeN E)))) := hM
  clear hM hE
  generalize hmb : manyB T = mb at HM
  clear hmb
  go_enter Try.func61, Try.ntmps61
  go_wp2_with (go_at_call 40; refine (list_any T _ _ (HT.out.keep (below_alloc _ _)) h2 HL.out).mono ?_; rw [HE.out]; rintro e w3 ⟨u2, rfl, hu2, hb3⟩; have HU : Hid (Ev4At w3 u2 E) := hu2; obtain ⟨ao, b, off, cap, hv4, ha, _, hc⟩ := hu2; subst hv4)
  rw [World.size_alloc] at hb3
  go_loopw [4, 5, 12] (fun u s i wr => ∃ (k n m : Nat), k ≤ E.length ∧ i = .int .i64 k ∧ u = .int .i64 n ∧ s = .int .i64 m ∧ n ≤ k ∧ m ≤ k ∧ Hid (cntK 2 E = n + cntK 2 (E.drop k) ∧ cntK 4 E = m + cntK 4 (E.drop k)) ∧ Below w3.heap.size w3 wr) (fun _ _ i _ => E.length - (intOf i).toNat)
  case atStart => exact ⟨0, 0, 0, Nat.zero_le _, rfl, rfl, rfl, Nat.le_refl _, Nat.le_refl _, ⟨(Nat.zero_add _).symm, (Nat.zero_add _).symm⟩, Below.refl _ _⟩
  case round =>
    obtain ⟨k, n, m, hk, rfl, rfl, rfl, hnk, hmk, hn, hb⟩ := hrel
    have hsz := hb.size
    have hs3 := hb3.size
    simp only [World.size_alloc] at hs3
    by_cases hlt : k < E.length
    · obtain ⟨x, hx⟩ := get_of_lt hlt
      have hC := hc k x hx
      have hbl := hC.lt
      obtain rfl := ha (ne_nil hlt)
      obtain ⟨c0, c1, c2, c3⟩ := ev4C_keeps _ _ _ _ _ hb hC
      have HN : Hid (cntK 2 E = n + cntK 2 (x :: E.drop (k + 1)) ∧ cntK 4 E = m + cntK 4 (x :: E.drop (k + 1))) := by rw [← drop_cons hx]; exact hn
      have HC : Hid (∀ k x, E[k]? = some x → Ev4C w3 b (off + k * 4) x) := hc
      clear hn hC ha hx hc
      cases h1 : x.kind == 2
      · cases h4 : x.kind == 4
        · have HM1 : Hid (cntK 2 E = n + cntK 2 (E.drop (k + 1)) ∧ cntK 4 E = m + cntK 4 (E.drop (k + 1))) := ⟨HN.out.1.trans (by rw [cntK_mis h1]), HN.out.2.trans (by rw [cntK_mis h4])⟩
          go_wp2_with fail
          go_roundw
          case measure => simp [intOf]; omega
          case rel => exact ⟨k + 1, n, m, by omega, by go_num, rfl, rfl, by omega, by omega, HM1.out, hb.alloc hsz _⟩
        · have HM1 : Hid (cntK 2 E = n + cntK 2 (E.drop (k + 1)) ∧ cntK 4 E = (m + 1) + cntK 4 (E.drop (k + 1))) := ⟨HN.out.1.trans (by rw [cntK_mis h1]), HN.out.2.trans (by rw [cntK_hit h4]; omega)⟩
          go_wp2_with fail
          go_roundw
          case measure => simp [intOf]; omega
          case rel => exact ⟨k + 1, n, m + 1, by omega, by go_num, rfl, by go_num, by omega, by omega, HM1.out, hb.alloc hsz _⟩
      · have h4 : (x.kind == 4) = false := by rw [beq_iff_eq] at h1; rw [h1]; rfl
        have HM1 : Hid (cntK 2 E = (n + 1) + cntK 2 (E.drop (k + 1)) ∧ cntK 4 E = m + cntK 4 (E.drop (k + 1))) := ⟨HN.out.1.trans (by rw [cntK_hit h1]; omega), HN.out.2.trans (by rw [cntK_mis h4])⟩
        go_wp2_with fail
        go_roundw
        case measure => simp [intOf]; omega
        case rel => exact ⟨k + 1, n + 1, m, by omega, by go_num, by go_num, rfl, by omega, by omega, HM1.out, hb.alloc hsz _⟩
    · have e1 : cntK 2 E = n := hn.out.1.trans (by rw [drop_nil hlt]; rfl)
      have e2 : cntK 4 E = m := hn.out.2.trans (by rw [drop_nil hlt]; rfl)
      have HM2 : Hid (mb = (decide (3 < n) || decide (2 < m) || decide (2000 < cap2 (sizeN E)))) := by rw [← e1, ← e2]; exact HM
      clear hn hc ha e1 e2 HM
      have hb4 : Below (w.heap.size + 1) (w.alloc (.cells #[.int .i64 0, .int .i64 0] 61)) wr := hb3.trans (hb.mono (by omega))
      obtain ⟨d0, d1, f0, f1, s3⟩ := own2 hb4
      have hbF : Below w.heap.size w wr := (below_alloc _ _).trans (hb4.mono (by omega))
      by_cases h3 : 3 < n
      · have HF : Hid (mb = true) := HM2.out.trans (by simp [h3])
        go_wp2_with fail
        exact bodyPost_ret (v := .agg #[.int .i64 5, .int .i64 0]) (by simp [results, Try.results61, go_sem, *]) rfl
          ⟨by rw [HF.out]; rfl, (hbF.setCell (Nat.le_refl _) _).setCell (Nat.le_refl _) _⟩
      · by_cases h5 : 2 < m
        · have HF : Hid (mb = true) := HM2.out.trans (by simp [h5])
          go_wp2_with fail
          exact bodyPost_ret (v := .agg #[.int .i64 5, .int .i64 0]) (by simp [results, Try.results61, go_sem, *]) rfl
            ⟨by rw [HF.out]; rfl, (hbF.setCell (Nat.le_refl _) _).setCell (Nat.le_refl _) _⟩
        · have HM3 : Hid (mb = decide (2000 < cap2 (sizeN E))) := HM2.out.trans (by simp [h3, h5])
          generalize hcs : cap2 (sizeN E) = cs at HM3
          have HCS : Hid (cap2 (sizeN E) = cs) := hcs
          clear hcs HM2
          by_cases h6 : 2000 < cs
          · have HF : Hid (mb = true) := HM3.out.trans (by simp [h6])
            go_wp2_with (go_at_call 41; refine (countP_any E hEl _ _ (HU.out.keep hb)).mono ?_; rw [HCS.out]; rintro e w5 ⟨rfl, hb5⟩; have hb6 := hb4.trans (hb5.mono (by omega)); clear d0 d1 f0 f1 s3; obtain ⟨d0, d1, f0, f1, s3⟩ := own2 hb6)
            exact bodyPost_ret (v := .agg #[.int .i64 5, .int .i64 0]) (by simp [results, Try.results61, go_sem, *]) rfl
              ⟨by rw [HF.out]; rfl, (((below_alloc _ _).trans (hb6.mono (by omega))).setCell (Nat.le_refl _) _).setCell (Nat.le_refl _) _⟩
          · have HF : Hid (mb = false) := HM3.out.trans (by simp [h6])
            go_wp2_with (go_at_call 41; refine (countP_any E hEl _ _ (HU.out.keep hb)).mono ?_; rw [HCS.out]; rintro e w5 ⟨rfl, hb5⟩; have hb6 := hb4.trans (hb5.mono (by omega)); clear d0 d1 f0 f1 s3; obtain ⟨d0, d1, f0, f1, s3⟩ := own2 hb6)
            exact bodyPost_ret (v := .agg #[.int .i64 0, .int .i64 0]) (by simp [results, Try.results61, go_sem, *]) rfl
              ⟨by rw [HF.out]; rfl, (((below_alloc _ _).trans (hb6.mono (by omega))).setCell (Nat.le_refl _) _).setCell (Nat.le_refl _) _⟩

end Go.Proofs.Ytomijmikkbhgmaa
