import Derived.Test.YtomijmikkbhgmaaT3
import Derived.Test.YtomijmikkbhgmaaT5
import Derived.Test.YtomijmikkbhgmaaT7
import Derived.Test.YtomijmikkbhgmaaT6
namespace Go.Proofs.Ytomijmikkbhgmaa
open Go.RowKit

theorem ret_cap {S n : Nat} (h : cap2 S = n) : Ending.returned (.int .i64 (n : Nat)) = .returned (.int .i64 (cap2 S : Nat)) := by rw [h]

set_option maxHeartbeats 2000000 in
theorem size_any (E : List Evt) (hE : E.length ≤ 96) (v : Value) (w : World) (h : Ev9At w v E) :
    Calls Try.prog 38 #[v] w fun e w' => e = .returned (.int .i64 (cap2 (sizeN E) : Nat)) ∧ Below w.heap.size w w' := by
  have HE : Hid (Ev9At w v E) := h
  obtain ⟨ao, b, off, cap, hv, ha, _, hc⟩ := h
  subst hv
  generalize hS : sizeN E = S
  have HS : Hid (sizeN E = S) := hS
  clear hS
  go_enter Try.func38, Try.ntmps38
  go_wp2_with fail
  go_loopw [3, 4] (fun u i wr => ∃ (k n : Nat), k ≤ E.length ∧ i = .int .i64 k ∧ u = .int .i64 n ∧ n ≤ 2000 ∧ Hid (S = n * (prodR E (E.drop k) * facL E 0)) ∧ Below w.heap.size w wr) (fun _ i _ => E.length - (intOf i).toNat)
  case atStart => exact ⟨0, 1, Nat.zero_le _, rfl, rfl, by omega, by rw [Nat.one_mul, List.drop_zero, ← sizeN_eq, HS.out]; exact rfl, Below.refl _ _⟩
  case round =>
    obtain ⟨k, n, hk, rfl, rfl, hn0, hn, hb⟩ := hrel
    by_cases hlt : k < E.length
    · obtain ⟨x, hx⟩ := get_of_lt hlt
      have hC := hc k x hx
      have hbl := hC.lt
      obtain rfl := ha (ne_nil hlt)
      obtain ⟨_, _, c2, c3, _, _, _, _, _⟩ := ev9C_keeps _ _ _ _ _ hb hC
      have HN : Hid (S = n * (prodR E (x :: E.drop (k + 1)) * facL E 0)) := by rw [← drop_cons hx]; exact hn
      clear hn hC ha hx
      have HC : Hid (∀ k x, E[k]? = some x → Ev9C w b (off + k * 9) x) := hc
      clear hc
      cases h1 : x.kind == 0
      · have HM : Hid (S = n * (prodR E (E.drop (k + 1)) * facL E 0)) := HN.out.trans (by rw [prodR_not h1])
        go_wp2_with fail
        go_roundw
        case measure => simp [intOf]; omega
        case rel => exact ⟨k + 1, n, by omega, by go_num, rfl, hn0, HM.out, hb⟩
      · have hwl := wrs_len E 0 x.loc
        have HM0 : Hid (S = n * ((1 + (wrs E 0 x.loc).length) * (prodR E (E.drop (k + 1)) * facL E 0))) := HN.out.trans (by rw [prodR_read h1, Nat.mul_assoc])
        generalize hW : wrs E 0 x.loc = W at hwl HM0
        have HW : Hid (wrs E 0 x.loc = W) := hW
        clear hW
        have hml := @mul_bd1 n W.length 2000 96 hn0 (by omega)
        obtain ⟨hm1, hm2⟩ := hml
        have HP : Hid (1 ≤ prodR E (E.drop (k + 1)) * facL E 0) := Nat.mul_le_mul (prodR_pos _ _) (facL_pos _ _)
        by_cases hbig : 2000 < (n : Int) * (1 + (W.length : Int))
        · have HR : Hid (cap2 S = 2001) := by
            rw [HM0.out, ← Nat.mul_assoc]
            refine cap2_big ?_ HP.out
            have e : ((n * (1 + W.length) : Nat) : Int) = (n : Int) * (1 + (W.length : Int)) := by simp
            omega
          go_wp2_with (go_at_call 63; refine (writesR_any E hE x.loc _ _ (HE.out.keep hb)).mono ?_; rw [HW.out]; rintro e w3 ⟨u2, rfl, hu2, hb3⟩; obtain ⟨ao4, b4, off4, cap4, ⟨hv4, ha4, _, hc4⟩, hb4⟩ := hu2; subst hv4)
          go_ret
          exact ⟨ret_cap HR.out, below_more hb hb3⟩
        · have HM : Hid (S = (n * (1 + W.length)) * (prodR E (E.drop (k + 1)) * facL E 0)) := HM0.out.trans (by rw [Nat.mul_assoc])
          go_wp2_with (go_at_call 63; refine (writesR_any E hE x.loc _ _ (HE.out.keep hb)).mono ?_; rw [HW.out]; rintro e w3 ⟨u2, rfl, hu2, hb3⟩; obtain ⟨ao4, b4, off4, cap4, ⟨hv4, ha4, _, hc4⟩, hb4⟩ := hu2; subst hv4)
          go_roundw
          case measure => simp [intOf]; omega
          case rel => exact ⟨k + 1, n * (1 + W.length), by omega, by go_num, by simp, by
              have e : ((n * (1 + W.length) : Nat) : Int) = (n : Int) * (1 + (W.length : Int)) := by simp
              omega, HM.out, below_more hb hb3⟩
    · have HM : Hid (S = n * facL E 0) := hn.out.trans (by rw [drop_nil hlt]; simp [prodR])
      clear hn hc ha
      go_wp2_with fail
      go_loopw [3, 6] (fun u i wr => ∃ (j n : Nat), j ≤ 3 ∧ i = .int .i64 j ∧ u = .int .i64 n ∧ n ≤ 2000 ∧ Hid (S = n * facL E j) ∧ Below w.heap.size w wr) (fun _ i _ => 3 - (intOf i).toNat)
      case atStart => exact ⟨0, n, by omega, rfl, rfl, hn0, HM.out, hb⟩
      case round =>
        clear HM hb hn0
        obtain ⟨j, n2, hj, rfl, rfl, hn0, hn, hb⟩ := hrel
        by_cases hlt2 : j < 3
        · have HM : Hid (S = n2 * (fac (wrs E 0 (j : Int)).length * facL E (j + 1))) := hn.out.trans (by rw [facL_step E j hlt2])
          have hwl := wrs_len E 0 (j : Int)
          generalize hW : wrs E 0 (j : Int) = W at hwl HM
          have HW : Hid (wrs E 0 (j : Int) = W) := hW
          clear hW hn
          go_wp2_with (go_at_call 63; refine (writesR_any E hE j _ _ (HE.out.keep hb)).mono ?_; rw [HW.out]; rintro e w3 ⟨u2, rfl, hu2, hb3⟩; obtain ⟨ao4, b4, off4, cap4, ⟨hv4, ha4, _, hc4⟩, hb4⟩ := hu2; subst hv4)
          have hb5 := below_more hb hb3
          clear hb3 hc4 ha4
          go_loop [3, 8] (fun u i => ∃ (k n : Nat), 2 ≤ k ∧ k ≤ 98 ∧ i = .int .i64 k ∧ u = .int .i64 n ∧ n ≤ 2000 ∧ Hid (S = n * (prodUp k (W.length + 1 - k) * facL E (j + 1)))) (fun _ i => 98 - (intOf i).toNat)
          case atStart => exact ⟨2, n2, by omega, by omega, rfl, rfl, hn0, HM.out.trans (by rw [prodUp_two])⟩
          case round =>
            clear HM hn0
            obtain ⟨k2, n3, hk2, hk98, rfl, rfl, hn0, hn⟩ := hrel
            by_cases hlt3 : k2 ≤ W.length
            · have HM0 : Hid (S = (n3 * k2) * (prodUp (k2 + 1) (W.length + 1 - (k2 + 1)) * facL E (j + 1))) := hn.out.trans (by rw [prodUp_step hlt3, Nat.mul_assoc, Nat.mul_assoc])
              obtain ⟨hm1, hm2⟩ := @mul_bd n3 k2 2000 98 hn0 (by omega)
              have HP : Hid (1 ≤ prodUp (k2 + 1) (W.length + 1 - (k2 + 1)) * facL E (j + 1)) := Nat.mul_le_mul (prodUp_pos _ _ (by omega)) (facL_pos _ _)
              have ec : ((n3 * k2 : Nat) : Int) = (n3 : Int) * (k2 : Int) := by simp
              have EC : Hid (((n3 * k2 : Nat) : Int) = (n3 : Int) * (k2 : Int)) := ec
              clear hn ec
              by_cases hbig : 2000 < (n3 : Int) * (k2 : Int)
              · have HR : Hid (cap2 S = 2001) := by
                  rw [HM0.out]
                  refine cap2_big ?_ HP.out
                  have e := EC.out
                  omega
                go_wp2_with fail
                go_ret
                exact ⟨ret_cap HR.out, hb5⟩
              · go_wp2_with fail
                go_round
                case measure => simp [intOf]; omega
                case rel => exact ⟨k2 + 1, n3 * k2, by omega, by omega, by go_num, by simp, by have e := EC.out; omega, HM0.out⟩
            · have HM1 : Hid (S = n3 * facL E (j + 1)) := hn.out.trans (by rw [prodUp_done hlt3, Nat.one_mul])
              clear hn
              go_wp2_with fail
              go_roundw
              case measure => simp [intOf]; omega
              case rel => exact ⟨j + 1, n3, by omega, by go_num, rfl, hn0, HM1.out, hb5⟩
        · have e3 : j = 3 := by omega
          subst e3
          have HR : Hid (cap2 S = n2) := by rw [hn.out, facL_three, Nat.mul_one]; exact cap2_of_le (by omega)
          clear hn
          go_wp2_with fail
          go_ret
          exact ⟨ret_cap HR.out, hb⟩

end Go.Proofs.Ytomijmikkbhgmaa

namespace Go.Proofs.Ytomijmikkbhgmaa
open Go.RowKit

theorem cap_step {S n f X : Nat} (h : S = cap2 (n * (f * X))) (hX : 1 ≤ X) : S = cap2 (cap2 (n * f) * X) := by
  rw [cap2_mul _ _ hX, Nat.mul_assoc]; exact h

set_option maxHeartbeats 2000000 in
theorem countP_any (E : List Evt) (hE : E.length ≤ 96) (v : Value) (w : World) (h : Ev4At w v E) :
    Calls Try.prog 41 #[v] w fun e w' => e = .returned (.int .i64 (cap2 (sizeN E) : Nat)) ∧ Below w.heap.size w w' := by
  have HE : Hid (Ev4At w v E) := h
  obtain ⟨ao, b, off, cap, hv, ha, _, hc⟩ := h
  subst hv
  generalize hS : cap2 (sizeN E) = S
  have HS : Hid (S = cap2 (sizeN E)) := hS.symm
  clear hS
  go_enter Try.func41, Try.ntmps41
  go_wp2_with fail
  go_loopw [3, 12] (fun u i wr => ∃ (k n : Nat), k ≤ E.length ∧ i = .int .i64 k ∧ u = .int .i64 n ∧ n ≤ 2001 ∧ Hid (S = cap2 (n * (prodR E (E.drop k) * facL E 0))) ∧ Below w.heap.size w wr) (fun _ i _ => E.length - (intOf i).toNat)
  case atStart => exact ⟨0, 1, Nat.zero_le _, rfl, rfl, by omega, by rw [Nat.one_mul, List.drop_zero, ← sizeN_eq]; exact HS.out, Below.refl _ _⟩
  case round =>
    obtain ⟨k, n, hk, rfl, rfl, hn0, hn, hb⟩ := hrel
    have hsz := hb.size
    by_cases hlt : k < E.length
    · obtain ⟨x, hx⟩ := get_of_lt hlt
      have hC := hc k x hx
      have hbl := hC.lt
      obtain rfl := ha (ne_nil hlt)
      obtain ⟨c0, c1, c2, c3⟩ := ev4C_keeps _ _ _ _ _ hb hC
      have HN : Hid (S = cap2 (n * (prodR E (x :: E.drop (k + 1)) * facL E 0))) := by rw [← drop_cons hx]; exact hn
      clear hn hC ha hx
      have HC : Hid (∀ k x, E[k]? = some x → Ev4C w b (off + k * 4) x) := hc
      clear hc
      cases h1 : x.kind == 0
      · have HM : Hid (S = cap2 (n * (prodR E (E.drop (k + 1)) * facL E 0))) := HN.out.trans (by rw [prodR_not h1])
        go_wp2_with fail
        go_roundw
        case measure => simp [intOf]; omega
        case rel => exact ⟨k + 1, n, by omega, by go_num, rfl, hn0, HM.out, hb.alloc hsz _⟩
      · have hwl := wrs_len E 0 x.loc
        have HM0 : Hid (S = cap2 (n * ((1 + (wrs E 0 x.loc).length) * (prodR E (E.drop (k + 1)) * facL E 0)))) := HN.out.trans (by rw [prodR_read h1, Nat.mul_assoc])
        generalize hW : wrs E 0 x.loc = W at hwl HM0
        have HW : Hid (wrs E 0 x.loc = W) := hW
        clear hW
        generalize hL : (-1 :: W).length = L
        have hLe : L = 1 + W.length := by rw [← hL]; simp; omega
        have HL : Hid ((-1 :: W).length = L) := hL
        have hL97 : L ≤ 97 := by omega
        rw [← hLe] at HM0
        obtain ⟨hm1, hm2⟩ := @mul_bd n L 2001 97 hn0 hL97
        have HM : Hid (S = cap2 (cap2 (n * L) * (prodR E (E.drop (k + 1)) * facL E 0))) := cap_step HM0.out (Nat.mul_le_mul (prodR_pos _ _) (facL_pos _ _))
        have EC : Hid ((n : Int) * (L : Int) = ((n * L : Nat) : Int)) := by simp [Hid]
        clear hL hLe
        go_wp2_with (first
          | (go_at_call 66; refine (sources_any E hE x.loc _ _ (HE.out.keep (hb.alloc hsz _))).mono ?_; rw [HW.out]; rintro e w3 ⟨u2, rfl, hu2, hb3⟩; obtain ⟨ao4, b4, off4, cap4, ⟨hv4, _, _, _⟩, _⟩ := hu2; subst hv4; rw [HL.out])
          | (go_at_call 67; rw [EC.out]; refine (capped_any _ _).mono ?_; rintro e w4 ⟨rfl, rfl⟩))
        go_roundw
        case measure => simp [intOf]; omega
        case rel => exact ⟨k + 1, _, by omega, by go_num, rfl, cap2_le _, HM.out, below_more (hb.alloc hsz _) hb3⟩
    · have HM : Hid (S = cap2 (n * facL E 0)) := hn.out.trans (by rw [drop_nil hlt]; simp [prodR])
      clear hn hc ha
      go_wp2_with fail
      go_loopw [3, 7] (fun u i wr => ∃ (j n : Nat), j ≤ 3 ∧ i = .int .i64 j ∧ u = .int .i64 n ∧ n ≤ 2001 ∧ Hid (S = cap2 (n * facL E j)) ∧ Below w.heap.size w wr) (fun _ i _ => 3 - (intOf i).toNat)
      case atStart => exact ⟨0, n, by omega, rfl, rfl, hn0, HM.out, hb⟩
      case round =>
        clear HM hb hn0 hsz
        obtain ⟨j, n2, hj, rfl, rfl, hn0, hn, hb⟩ := hrel
        by_cases hlt2 : j < 3
        · have HM : Hid (S = cap2 (n2 * (fac (wrs E 0 (j : Int)).length * facL E (j + 1)))) := hn.out.trans (by rw [facL_step E j hlt2])
          have hwl := wrs_len E 0 (j : Int)
          generalize hW : wrs E 0 (j : Int) = W at hwl HM
          have HW : Hid (wrs E 0 (j : Int) = W) := hW
          clear hW hn
          go_wp2_with (go_at_call 68; refine (writesP_any E hE j _ _ (HE.out.keep hb)).mono ?_; rw [HW.out]; rintro e w3 ⟨u2, rfl, hu2, hb3⟩; obtain ⟨ao4, b4, off4, cap4, ⟨hv4, ha4, _, hc4⟩, hb4⟩ := hu2; subst hv4)
          have hb5 := below_more hb hb3
          clear hb3 hc4 ha4
          go_loop [3, 9] (fun u i => ∃ (k n : Nat), k ≤ 96 ∧ i = .int .i64 k ∧ u = .int .i64 n ∧ n ≤ 2001 ∧ Hid (S = cap2 (n * (fac k * facL E (j + 1))))) (fun _ i => (intOf i).toNat)
          case atStart => exact ⟨W.length, n2, by omega, rfl, rfl, hn0, HM.out⟩
          case round =>
            clear HM hn0
            obtain ⟨k2, n3, hk98, rfl, rfl, hn0, hn⟩ := hrel
            by_cases hlt3 : 0 < k2
            · obtain ⟨k3, rfl⟩ : ∃ k3, k2 = k3 + 1 := ⟨k2 - 1, by omega⟩
              have HM0 : Hid (S = cap2 (cap2 (n3 * (k3 + 1)) * (fac k3 * facL E (j + 1)))) := cap_step (hn.out.trans (by rw [fac, Nat.mul_assoc])) (Nat.mul_le_mul (fac_pos _) (facL_pos _ _))
              obtain ⟨hm1, hm2⟩ := @mul_bd n3 (k3 + 1) 2001 98 hn0 (by omega)
              have EC : Hid ((n3 : Int) * ((k3 : Int) + 1) = ((n3 * (k3 + 1) : Nat) : Int)) := by simp [Hid]
              rw [show ((k3 + 1 : Nat) : Int) = (k3 : Int) + 1 by simp] at hm1 hm2
              clear hn
              go_wp2_with (go_at_call 67; rw [EC.out]; refine (capped_any _ _).mono ?_; rintro e w4 ⟨rfl, rfl⟩)
              go_round
              case measure => simp [intOf]
              case rel => exact ⟨k3, _, by omega, by go_num, rfl, cap2_le _, HM0.out⟩
            · have e0 : k2 = 0 := by omega
              subst e0
              have HM1 : Hid (S = cap2 (n3 * facL E (j + 1))) := hn.out.trans (by rw [fac, Nat.one_mul])
              clear hn
              go_wp2_with fail
              go_roundw
              case measure => simp [intOf]; omega
              case rel => exact ⟨j + 1, n3, by omega, by go_num, rfl, hn0, HM1.out, hb5⟩
        · have e3 : j = 3 := by omega
          subst e3
          have HR : Hid (S = n2) := by rw [hn.out, facL_three, Nat.mul_one]; exact cap2_of_le hn0
          clear hn
          go_wp2_with fail
          go_ret
          exact ⟨by rw [HR.out]; rfl, hb⟩

end Go.Proofs.Ytomijmikkbhgmaa

namespace Go.Proofs.Ytomijmikkbhgmaa
open Go.RowKit


/-- Of a candidate the order of the writes of location j. -/
def ordJ (E : List Evt) (n j : Nat) : List Int := chO n (wrs E 0 (j : Int)).length (wrs E 0 (j : Int)) (facL E j)
theorem exN_order (E : List Evt) (n : Nat) : (exN E n).order = (List.range 3).map (ordJ E n) := rfl

theorem Only.setCellN (B o : Nat) (u : Value) (w : World) : Only B w (w.setCell ⟨B, o, none⟩ u) :=
  ⟨rfl, rfl, rfl, by simp [World.setCell], fun k _ hn => Below.heap_setCell w ⟨B, o, none⟩ u k hn⟩

/-- What Nth answers: no such candidate. -/
def noExe : Value := .tuple #[.agg #[.slice none 0 0, .slice none 0 0], .int .i64 6]

theorem own2s {w w3 : World} {a b : Value} {t : TypeId} (hb : Below (w.heap.size + 1) (w.alloc (.cells #[a, b] t)) w3) :
    w3.cell? ⟨w.heap.size, 0, none⟩ = some a ∧ w3.cell? ⟨w.heap.size, 1, none⟩ = some b ∧ w3.frozen? ⟨w.heap.size, 0, none⟩ = false ∧ w3.frozen? ⟨w.heap.size, 1, none⟩ = false ∧ w.heap.size < w3.heap.size := by
  have h1 := hb.cell (p := ⟨w.heap.size, 0, none⟩) (by simp)
  have h2 := hb.cell (p := ⟨w.heap.size, 1, none⟩) (by simp)
  have h3 := hb.frozen (p := ⟨w.heap.size, 0, none⟩) (by simp)
  have h4 := hb.frozen (p := ⟨w.heap.size, 1, none⟩) (by simp)
  have h5 := hb.size
  simp at h1 h2 h3 h4 h5
  exact ⟨h1, h2, h3, h4, by omega⟩

set_option maxHeartbeats 2000000 in
theorem nth_no (E : List Evt) (hE : E.length ≤ 96) (v : Value) (n : Int) (w : World) (h : Ev4At w v E) (hn : n < 0 ∨ (sizeN E : Int) ≤ n) (hs : sizeN E ≤ 2000) :
    Calls Try.prog 42 #[v, .int .i64 n] w fun e w' => e = .returned noExe ∧ Below w.heap.size w w' := by
  have HH : Hid (Ev4At w v E) := h
  have hS : cap2 (sizeN E) = sizeN E := cap2_of_le (by omega)
  generalize hSS : sizeN E = S at hn hs hS
  have HS : Hid (cap2 (sizeN E) = S) := by rw [hSS]; exact hS
  clear hS hSS h
  rcases hn with hn | hn
  all_goals
    go_enter Try.func42, Try.ntmps42
    go_wp2_with fail
    refine (countP_any E hE v _ (HH.out.keep (below_alloc _ _))).mono ?_
    rw [HS.out]
    rintro e w3 ⟨rfl, hb3⟩
    rw [World.size_alloc] at hb3
    obtain ⟨d0, d1, f0, f1, s3⟩ := own2s hb3
    have hb4 : Below w.heap.size w w3 := (below_alloc _ _).trans (hb3.mono (by omega))
    clear hb3
    go_wp2_with fail
    exact bodyPost_ret (v := .tuple #[.agg #[.slice none 0 0, .slice none 0 0], .int .i64 6]) (by simp [results, Try.results42, go_sem, *]) rfl
      ⟨rfl, (hb4.setCell (Nat.le_refl _) _).setCell (Nat.le_refl _) _⟩

/-- An execution that is new: from block B on. -/
structure ExeN (B : Nat) (w : World) (vf vo : Value) (x : Exe) : Prop where
  f : ∃ ao b off cap, SlAt w 1 IntC vf x.from' ao b off cap ∧ B ≤ b
  o : LstNew B w vo x.order
theorem ExeN.at' {B : Nat} {w : World} {vf vo : Value} {x : Exe} (h : ExeN B w vf vo x) : ExeAt w vf vo x := by
  obtain ⟨ao, b, off, cap, hs, _⟩ := h.f
  exact ⟨⟨ao, b, off, cap, hs⟩, h.o.at'⟩
theorem ExeN.other {B : Nat} {w w' : World} {vf vo : Value} {x : Exe} (h : ExeN B w vf vo x) (hs : ∀ b, B ≤ b → b < w.heap.size → w'.heap[b]? = w.heap[b]?) : ExeAt w' vf vo x := by
  obtain ⟨ao, b, off, cap, ⟨hv, ha, hn, hc⟩, hB⟩ := h.f
  obtain ⟨ao2, b2, off2, cap2, hv2, ha2, hn2, hB2, hc2⟩ := h.o
  refine ⟨⟨ao, b, off, cap, hv, ha, hn, fun k y hy => ?_⟩, ao2, b2, off2, cap2, hv2, ha2, hn2, fun k y hy => ?_⟩
  · have hcc := hc k y hy
    exact cell_heap (hs b hB (World.block_lt_of_cell? _ _ hcc)) hcc
  · obtain ⟨u, h1, h2, h3⟩ := hc2 k y hy
    rw [Nat.mul_one]
    exact ⟨u, cell_heap (hs b2 hB2 (World.block_lt_of_cell? _ _ h1)) h1, (h2.other (fun g hg => hs g (h3 g hg).1 (h3 g hg).2)).at'⟩
theorem LstNew.less {B B' : Nat} {w : World} {v : Value} {L : List (List Int)} (h : LstNew B w v L) (hb : B' ≤ B) : LstNew B' w v L := by
  obtain ⟨ao, b, off, cap, hv, ha, hn, hB, hc⟩ := h
  refine ⟨ao, b, off, cap, hv, ha, hn, Nat.le_trans hb hB, fun k x hx => ?_⟩
  obtain ⟨u, h1, h2, h3⟩ := hc k x hx
  exact ⟨u, h1, h2, fun g hg => ⟨Nat.le_trans hb (h3 g hg).1, (h3 g hg).2⟩⟩

set_option maxHeartbeats 4000000 in
theorem nth_new (E : List Evt) (hE : E.length ≤ 96) (v : Value) (n : Nat) (w : World) (h : Ev4At w v E) (hn : n < sizeN E) (hs : sizeN E ≤ 2000) :
    Calls Try.prog 42 #[v, .int .i64 n] w fun e w' => ∃ vf vo, e = .returned (.tuple #[.agg #[vf, vo], .int .i64 0]) ∧ ExeN w.heap.size w' vf vo (exN E n) ∧ Below w.heap.size w w' := by
  have HH : Hid (Ev4At w v E) := h
  have hS : cap2 (sizeN E) = sizeN E := cap2_of_le (by omega)
  have hP : sizeN E = plen (rdo E E) * facL E 0 := by rw [plen_rdo]; rfl
  have HX : Hid ((exN E n).from' = chF n (rdo E E) (sizeN E)) := rfl
  generalize hSS : sizeN E = S at hn hs hS hP HX
  have HS : Hid (cap2 (sizeN E) = S) := by rw [hSS]; exact hS
  have HP : Hid (S = plen (rdo E E) * facL E 0) := hP
  clear hS hSS h hP
  obtain ⟨i0, hi, hz0, hz1, hz2⟩ := info_parts Try.infoInts
  have HI : Hid (Try.prog.info? 37 = some i0 ∧ i0.zero = some (.slice none 0 0) ∧ i0.size = 1 ∧ i0.bytes = 24) := ⟨hi, hz0, hz1, hz2⟩
  clear hi hz0 hz1 hz2
  go_enter Try.func42, Try.ntmps42
  go_wp2_with fail
  refine (countP_any E hE v _ (HH.out.keep (below_alloc _ _))).mono ?_
  rw [HS.out]
  rintro e w3 ⟨rfl, hb3⟩
  rw [World.size_alloc] at hb3
  obtain ⟨d0, d1, f0, f1, s3⟩ := own2s hb3
  have hb4 : Below w.heap.size w w3 := (below_alloc _ _).trans (hb3.mono (by omega))
  clear hb3
  go_wp2_with fail
  have hC0 : Chs (w3.alloc (.cells #[.int .i64 n, .int .i64 S] 105)) w3.heap.size n S := ⟨by simp, by simp, by simp, by simp⟩
  refine (chooseFrom_any E hE v w _ HH.out (hb4.alloc hb4.size _) w3.heap.size n S (facL E 0) hb4.size hC0 HP.out (facL_pos E 0) (by omega) (by omega)).mono ?_
  rintro e w5 ⟨uf, rfl, huf, hC5, hO5⟩
  obtain ⟨aof, bf, off, capf, hslf, hbf⟩ := huf
  rw [World.size_alloc] at hbf
  have hO3 : Only w3.heap.size w3 w5 := (Only.of_below (below_alloc _ _)).trans hO5
  replace d0 := hO3.cell d0 (by omega)
  replace d1 := hO3.cell d1 (by omega)
  have hfz : ∀ o, w5.frozen? ⟨w.heap.size, o, none⟩ = w3.frozen? ⟨w.heap.size, o, none⟩ := fun o => World.frozen?_of_block (w := w3) (hO3.block w.heap.size (by omega) (by omega))
  replace f0 := (hfz 0).trans f0
  replace f1 := (hfz 1).trans f1
  have hb5 : Below w.heap.size w w5 := hb4.trans (hO3.below hb4.size hb4.size)
  have hs5 : w3.heap.size + 1 ≤ w5.heap.size := by have := hO5.size; simpa using this
  generalize w3.heap.size = B at hC5 hO5 hO3 hbf hs5 s3 ⊢
  have HF : Hid (SlAt w5 1 IntC uf (chF n (rdo E E) S) aof bf off capf) := hslf
  have HC5 : Hid (Chs w5 B n (facL E 0)) := hC5
  clear hslf hC5 hO5 hO3 hC0 hfz
  go_wp2_with fail
  go_loopw [9, 10] (fun u i wr => ∃ (j : Nat) (aoV : Option Addr) (capV : Nat) (vs : List Value), j ≤ 3 ∧ i = .int .i64 j ∧ u = .slice aoV j capV ∧ LL wr w5.heap.size (.slice aoV j capV) ((List.range j).map (ordJ E n)) vs ∧ Chs wr B n (facL E j) ∧ Only B w5 wr) (fun _ i _ => 3 - (intOf i).toNat)
  case atStart => exact ⟨0, none, 0, [], by omega, rfl, rfl, LL.nil _ _, HC5.out, Only.refl _ _⟩
  case round =>
    obtain ⟨j, aoV, capV, vs, hj, rfl, rfl, hLL, hch, ho⟩ := hrel
    have HLL : Hid (LL wr w5.heap.size (.slice aoV j capV) ((List.range j).map (ordJ E n)) vs) := hLL
    have HCH : Hid (Chs wr B n (facL E j)) := hch
    have HO : Hid (Only B w5 wr) := ho
    have hsz := ho.size
    have hBl := hch.lt
    clear hLL hch ho HC5
    by_cases hlt : j < 3
    · have hbr : Below w.heap.size w wr := hb5.trans (HO.out.below (by omega) hb5.size)
      have hwl := wrs_len E 0 (j : Int)
      have HST : Hid (facL E j = fac (wrs E 0 (j : Int)).length * facL E (j + 1)) := facL_step E j hlt
      have HOJ : Hid (ordJ E n j = chO n (wrs E 0 (j : Int)).length (wrs E 0 (j : Int)) (facL E j)) := rfl
      have hle : facL E j ≤ 2001 := by
        have h1 : facL E j ≤ facL E 0 := by
          have a := fac_pos (wrs E 0 0).length
          have b := fac_pos (wrs E 0 1).length
          have e0 : facL E 0 = fac (wrs E 0 0).length * facL E 1 := rfl
          have e1 : facL E 1 = fac (wrs E 0 1).length * facL E 2 := rfl
          have h01 : facL E 1 ≤ facL E 0 := by rw [e0]; exact Nat.le_mul_of_pos_left _ a
          have h12 : facL E 2 ≤ facL E 1 := by rw [e1]; exact Nat.le_mul_of_pos_left _ b
          match j, hlt with
          | 0, _ => exact Nat.le_refl _
          | 1, _ => exact h01
          | 2, _ => exact Nat.le_trans h12 h01
        have h2 : facL E 0 ≤ S := by rw [HP.out]; exact Nat.le_mul_of_pos_left _ (plen_pos (rdo_pos E E))
        omega
      generalize hW : wrs E 0 (j : Int) = W at hwl HST HOJ
      have HW : Hid (wrs E 0 (j : Int) = W) := hW
      clear hW
      go_wp2_with fail
      refine (writesP_any E hE j v _ (HH.out.keep hbr)).mono ?_
      rw [HW.out]
      rintro e w6 ⟨u2, rfl, hu2, hb6⟩
      obtain ⟨ao2, b2, off2, cap2', hsl2, hb2⟩ := hu2
      have HLL6 : Hid (LL w6 w5.heap.size (.slice aoV j capV) ((List.range j).map (ordJ E n)) vs) := HLL.out.keep hb6
      have HCH6 : Hid (Chs w6 B n (facL E j)) := HCH.out.below hb6
      have HO6 : Hid (Only B w5 w6) := HO.out.trans (Only.of_below hb6)
      have hs6 := hb6.size
      have HSL : Hid (SlAt w6 1 IntC u2 W ao2 b2 off2 cap2') := hsl2
      clear hsl2 hb6 HLL HCH HO
      go_wp2_with fail
      refine (chooseOrder_any W (by omega) u2 _ ao2 b2 off2 cap2' HSL.out B n (facL E j) (facL E (j + 1)) (by omega) (fun hne => by
        obtain ⟨x, hx⟩ := get_of_lt (l := W) (k := 0) (by cases W with | nil => exact absurd rfl hne | cons a l => simp)
        exact World.block_lt_of_cell? _ _ (HSL.out.hc 0 x hx)) HCH6.out HST.out (facL_pos E (j + 1)) hle (by omega)).mono ?_
      rw [← HOJ.out]
      rintro e w7 ⟨u3, rfl, hu3, hC7, ho7⟩
      obtain ⟨ao3, cap3, hf3⟩ := hu3.1.at'.form
      have HLL7 : Hid (LL w7 w5.heap.size (.slice aoV j capV) ((List.range j).map (ordJ E n)) vs) := HLL6.out.only ho7 (by omega)
      have HCH7 : Hid (Chs w7 B n (facL E (j + 1))) := hC7
      have HO7 : Hid (Only B w5 w7) := HO6.out.trans ho7
      have hs7 := ho7.size
      subst hf3
      have HU3 : Hid (IntCap w7 (.slice ao3 (ordJ E n j).length cap3) (ordJ E n j) ∧ ∀ b, (Value.slice ao3 (ordJ E n j).length cap3).ownBlock = some b → w5.heap.size ≤ b ∧ b < w7.heap.size ∧ (Value.slice aoV j capV).ownBlock ≠ some b) :=
        ⟨hu3.1.cap, fun b hb => ⟨by have := (hu3.2 b hb).1; omega, (hu3.2 b hb).2, fun e => by have := (HLL6.out.own.lt b e).2; have := (hu3.2 b hb).1; omega⟩⟩
      have HOW : Hid (w7.ownsRow w5.heap.size 37 1 (.slice aoV j capV) j vs) := by have := HLL7.out.own; unfold Hid; simpa using this
      clear hu3 hC7 ho7 HLL6 HCH6 HO6 HSL
      go_wp2_with (at_builtin; refine append_new _ rfl (.tmp 41) (.tmp 43) 38 rfl w5.heap.size 37 i0 (.slice none 0 0) 1 24 Try.underlying38 HI.out.1 HI.out.2.1 HI.out.2.2.1 HI.out.2.2.2 rfl (by decide) (.slice aoV j capV) j vs rfl (HOW.out.alloc _) (some ⟨w7.heap.size, 0, none⟩) 1 1 [.slice ao3 (ordJ E n j).length cap3] rfl (fun h => by cases h) rfl (fun ad had => by cases had; exact new_one rfl) (by simp [Value.oneCell']) (by unfold maxLen; omega) (by omega) (by simp; omega) ?_)
      intro V8 w8 hown8 hgrow8 hap8
      obtain ⟨ao8, cap8, hf8, _⟩ := own_form hown8
      have hap9 : ∀ g, V8.ownBlock = some g → (Value.slice aoV j capV).ownBlock = some g ∨ w7.heap.size + 1 ≤ g := by simpa using hap8
      have HLL8 : Hid (LL w8 w5.heap.size V8 ((List.range (j + 1)).map (ordJ E n)) (vs ++ [.slice ao3 (ordJ E n j).length cap3])) := by
        unfold Hid
        rw [List.range_succ, List.map_append]
        exact HLL7.out.snoc HU3.out.1 HU3.out.2 (by simpa using hown8) hgrow8 hap9
      have HO8 : Hid (Only B w5 w8) := Only.grown (n := w5.heap.size) hgrow8 (fun kk e => (HOW.out.lt kk e).1) (HO7.out.trans (Only.of_below (below_alloc _ _))) (Nat.le_refl _)
      have HC8 : Hid (Chs w8 B n (facL E (j + 1))) := (HCH7.out.below (below_alloc _ _)).keep (hgrow8.block B (by have := HCH7.out.lt; simp; omega) (fun e => by have := (HOW.out.lt B e.symm).1; omega))
      subst hf8
      clear hown8 hgrow8 hap8 hap9 HLL7 HU3 HOW HO7 HCH7
      go_wp2_with fail
      go_roundw
      case measure => simp [intOf]; omega
      case rel => exact ⟨j + 1, ao8, cap8, _, by omega, by go_num, rfl, HLL8.out, HC8.out, HO8.out⟩
    · have h3 : j = 3 := by omega
      subst h3
      replace d0 := HO.out.cell d0 (by omega)
      replace d1 := HO.out.cell d1 (by omega)
      have hfz : ∀ o, wr.frozen? ⟨w.heap.size, o, none⟩ = w5.frozen? ⟨w.heap.size, o, none⟩ := fun o => World.frozen?_of_block (w := w5) (HO.out.block w.heap.size (by have := hb5.size; omega) (by omega))
      replace f0 := (hfz 0).trans f0
      replace f1 := (hfz 1).trans f1
      have hv := HF.out.hv
      subst hv
      have hbr : Below w.heap.size w wr := hb5.trans (HO.out.below (by omega) hb5.size)
      have HFR : Hid (SlAt wr 1 IntC (.slice aof (chF n (rdo E E) S).length capf) (chF n (rdo E E) S) aof bf off capf) := IntAt.only HF.out HO.out (by omega)
      clear hfz HF HO HCH
      go_wp2_with fail
      have hset : Only w.heap.size wr ((wr.setCell ⟨w.heap.size, 0, none⟩ (.slice aof (chF n (rdo E E) S).length capf)).setCell ⟨w.heap.size, 1, none⟩ (.slice aoV 3 capV)) := (Only.setCellN _ _ _ _).trans (Only.setCellN _ _ _ _)
      refine bodyPost_ret (v := .tuple #[.agg #[.slice aof (chF n (rdo E E) S).length capf, .slice aoV 3 capV], .int .i64 0]) (by simp [results, Try.results42, go_sem, *]) rfl
        ⟨_, _, rfl, ⟨?_, ?_⟩, (hbr.setCell (Nat.le_refl _) _).setCell (Nat.le_refl _) _⟩
      · rw [HX.out]
        exact ⟨aof, bf, off, capf, IntAt.only HFR.out hset (by omega), by omega⟩
      · rw [exN_order]
        exact (HLL.out.only hset (by have := hb5.size; omega)).read.less hb5.size

theorem nth_yes (E : List Evt) (hE : E.length ≤ 96) (v : Value) (n : Nat) (w : World) (h : Ev4At w v E) (hn : n < sizeN E) (hs : sizeN E ≤ 2000) :
    Calls Try.prog 42 #[v, .int .i64 n] w fun e w' => ∃ vf vo, e = .returned (.tuple #[.agg #[vf, vo], .int .i64 0]) ∧ ExeAt w' vf vo (exN E n) ∧ Below w.heap.size w w' :=
  (nth_new E hE v n w h hn hs).mono fun _ _ ⟨vf, vo, he, hx, hb⟩ => ⟨vf, vo, he, hx.at', hb⟩

end Go.Proofs.Ytomijmikkbhgmaa
