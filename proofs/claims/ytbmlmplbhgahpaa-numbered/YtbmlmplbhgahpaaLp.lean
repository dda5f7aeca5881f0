import Derived.Test.YtbmlmplbhgahpaaLk
import Derived.Test.YtbmlmplbhgahpaaLo
namespace Go.Proofs.Ytbmlmplbhgahpaa
open Go.RowKit

theorem cap_step {S n f X : Nat} (h : S = cap2 (n * (f * X))) (hX : 1 ≤ X) : S = cap2 (cap2 (n * f) * X) := by
  rw [cap2_mul _ _ hX, Nat.mul_assoc]; exact h

set_option maxHeartbeats 2000000 in
theorem countP_any (E : List Evt) (hE : E.length ≤ 96) (v : Value) (w : World) (h : Ev4At w v E) :
    Calls Try.prog 33 #[v] w fun e w' => e = .returned (.int .i64 (cap2 (sizeN E) : Nat)) ∧ Below w.heap.size w w' := by
  have HE : Hid (Ev4At w v E) := h
  obtain ⟨ao, b, off, cap, hv, ha, _, hc⟩ := h
  subst hv
  generalize hS : cap2 (sizeN E) = S
  have HS : Hid (S = cap2 (sizeN E)) := hS.symm
  clear hS
  go_enter Try.func33, Try.ntmps33
  go_wp2_with fail
  go_loopw [3, 12] (fun u i wr => ∃ (k n : Nat), k ≤ E.length ∧ i = .int .i64 k ∧ u = .int .i64 n ∧ n ≤ 2001 ∧ Hid (S = cap2 (n * (prodR E (E.drop k) * facL E 0))) ∧ Below w.heap.size w wr) (fun _ i _ => E.length - (intOf i).toNat)
  case atStart => exact ⟨0, 1, Nat.zero_le _, rfl, rfl, by omega, by rw [Nat.one_mul, List.drop_zero, ← sizeN_eq]; exact HS.out, Below.refl _ _⟩
  case round =>
    obtain ⟨k, n, hk, rfl, rfl, hn0, hn, hb⟩ := hrel
    have hsz := hb.size
    by_cases hlt : k < E.length
    · obtain ⟨x, hx⟩ := get_of_lt hlt
      have hC := hc k x hx
      have hbl := hC.lt
      obtain rfl := ha (ne_nil hlt)
      obtain ⟨c0, c1, c2, c3⟩ := ev4C_keeps _ _ _ _ _ hb hC
      have HN : Hid (S = cap2 (n * (prodR E (x :: E.drop (k + 1)) * facL E 0))) := by rw [← drop_cons hx]; exact hn
      clear hn hC ha hx
      have HC : Hid (∀ k x, E[k]? = some x → Ev4C w b (off + k * 4) x) := hc
      clear hc
      cases h1 : x.kind == 0
      · have HM : Hid (S = cap2 (n * (prodR E (E.drop (k + 1)) * facL E 0))) := HN.out.trans (by rw [prodR_not h1])
        go_wp2_with fail
        go_roundw
        case measure => simp [intOf]; omega
        case rel => exact ⟨k + 1, n, by omega, by go_num, rfl, hn0, HM.out, hb.alloc hsz _⟩
      · have hwl := wrs_len E 0 x.loc
        have HM0 : Hid (S = cap2 (n * ((1 + (wrs E 0 x.loc).length) * (prodR E (E.drop (k + 1)) * facL E 0)))) := HN.out.trans (by rw [prodR_read h1, Nat.mul_assoc])
        generalize hW : wrs E 0 x.loc = W at hwl HM0
        have HW : Hid (wrs E 0 x.loc = W) := hW
        clear hW
        generalize hL : (-1 :: W).length = L
        have hLe : L = 1 + W.length := by rw [← hL]; simp; omega
        have HL : Hid ((-1 :: W).length = L) := hL
        have hL97 : L ≤ 97 := by omega
        rw [← hLe] at HM0
        obtain ⟨hm1, hm2⟩ := @mul_bd n L 2001 97 hn0 hL97
        have HM : Hid (S = cap2 (cap2 (n * L) * (prodR E (E.drop (k + 1)) * facL E 0))) := cap_step HM0.out (Nat.mul_le_mul (prodR_pos _ _) (facL_pos _ _))
        have EC : Hid ((n : Int) * (L : Int) = ((n * L : Nat) : Int)) := by simp [Hid]
        clear hL hLe
        go_wp2_with (first
          | (go_at_call 47; refine (sources_any E hE x.loc _ _ (HE.out.keep (hb.alloc hsz _))).mono ?_; rw [HW.out]; rintro e w3 ⟨u2, rfl, hu2, hb3⟩; obtain ⟨ao4, b4, off4, cap4, ⟨hv4, _, _, _⟩, _⟩ := hu2; subst hv4; rw [HL.out])
          | (go_at_call 48; rw [EC.out]; refine (capped_any _ _).mono ?_; rintro e w4 ⟨rfl, rfl⟩))
        go_roundw
        case measure => simp [intOf]; omega
        case rel => exact ⟨k + 1, _, by omega, by go_num, rfl, cap2_le _, HM.out, below_more (hb.alloc hsz _) hb3⟩
    · have HM : Hid (S = cap2 (n * facL E 0)) := hn.out.trans (by rw [drop_nil hlt]; simp [prodR])
      clear hn hc ha
      go_wp2_with fail
      go_loopw [3, 7] (fun u i wr => ∃ (j n : Nat), j ≤ 3 ∧ i = .int .i64 j ∧ u = .int .i64 n ∧ n ≤ 2001 ∧ Hid (S = cap2 (n * facL E j)) ∧ Below w.heap.size w wr) (fun _ i _ => 3 - (intOf i).toNat)
      case atStart => exact ⟨0, n, by omega, rfl, rfl, hn0, HM.out, hb⟩
      case round =>
        clear HM hb hn0 hsz
        obtain ⟨j, n2, hj, rfl, rfl, hn0, hn, hb⟩ := hrel
        by_cases hlt2 : j < 3
        · have HM : Hid (S = cap2 (n2 * (fac (wrs E 0 (j : Int)).length * facL E (j + 1)))) := hn.out.trans (by rw [facL_step E j hlt2])
          have hwl := wrs_len E 0 (j : Int)
          generalize hW : wrs E 0 (j : Int) = W at hwl HM
          have HW : Hid (wrs E 0 (j : Int) = W) := hW
          clear hW hn
          go_wp2_with (go_at_call 49; refine (writesP_any E hE j _ _ (HE.out.keep hb)).mono ?_; rw [HW.out]; rintro e w3 ⟨u2, rfl, hu2, hb3⟩; obtain ⟨ao4, b4, off4, cap4, ⟨hv4, ha4, _, hc4⟩, hb4⟩ := hu2; subst hv4)
          have hb5 := below_more hb hb3
          clear hb3 hc4 ha4
          go_loop [3, 9] (fun u i => ∃ (k n : Nat), k ≤ 96 ∧ i = .int .i64 k ∧ u = .int .i64 n ∧ n ≤ 2001 ∧ Hid (S = cap2 (n * (fac k * facL E (j + 1))))) (fun _ i => (intOf i).toNat)
          case atStart => exact ⟨W.length, n2, by omega, rfl, rfl, hn0, HM.out⟩
          case round =>
            clear HM hn0
            obtain ⟨k2, n3, hk98, rfl, rfl, hn0, hn⟩ := hrel
            by_cases hlt3 : 0 < k2
            · obtain ⟨k3, rfl⟩ : ∃ k3, k2 = k3 + 1 := ⟨k2 - 1, by omega⟩
              have HM0 : Hid (S = cap2 (cap2 (n3 * (k3 + 1)) * (fac k3 * facL E (j + 1)))) := cap_step (hn.out.trans (by rw [fac, Nat.mul_assoc])) (Nat.mul_le_mul (fac_pos _) (facL_pos _ _))
              obtain ⟨hm1, hm2⟩ := @mul_bd n3 (k3 + 1) 2001 98 hn0 (by omega)
              have EC : Hid ((n3 : Int) * ((k3 : Int) + 1) = ((n3 * (k3 + 1) : Nat) : Int)) := by simp [Hid]
              rw [show ((k3 + 1 : Nat) : Int) = (k3 : Int) + 1 by simp] at hm1 hm2
              clear hn
              go_wp2_with (go_at_call 48; rw [EC.out]; refine (capped_any _ _).mono ?_; rintro e w4 ⟨rfl, rfl⟩)
              go_round
              case measure => simp [intOf]
              case rel => exact ⟨k3, _, by omega, by go_num, rfl, cap2_le _, HM0.out⟩
            · have e0 : k2 = 0 := by omega
              subst e0
              have HM1 : Hid (S = cap2 (n3 * facL E (j + 1))) := hn.out.trans (by rw [fac, Nat.one_mul])
              clear hn
              go_wp2_with fail
              go_roundw
              case measure => simp [intOf]; omega
              case rel => exact ⟨j + 1, n3, by omega, by go_num, rfl, hn0, HM1.out, hb5⟩
        · have e3 : j = 3 := by omega
          subst e3
          have HR : Hid (S = n2) := by rw [hn.out, facL_three, Nat.mul_one]; exact cap2_of_le hn0
          clear hn
          go_wp2_with fail
          go_ret
          exact ⟨by rw [HR.out]; rfl, hb⟩

end Go.Proofs.Ytbmlmplbhgahpaa
