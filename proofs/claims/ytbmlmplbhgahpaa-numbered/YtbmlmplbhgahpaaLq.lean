import Derived.Test.YtbmlmplbhgahpaaLp
import Derived.Test.YtbmlmplbhgahpaaLl
import Derived.Test.YtbmlmplbhgahpaaLh
namespace Go.Proofs.Ytbmlmplbhgahpaa
open Go.RowKit

def faultM (b : Bool) : Value := .agg #[.int .i64 (if b then 5 else 0), .int .i64 0]

theorem cntK_hit {k : Int} {x : Evt} (h : (x.kind == k) = true) (R : List Evt) : cntK k (x :: R) = 1 + cntK k R := by
  unfold cntK; rw [List.filter_cons, if_pos h, List.length_cons]; omega
theorem cntK_mis {k : Int} {x : Evt} (h : (x.kind == k) = false) (R : List Evt) : cntK k (x :: R) = cntK k R := by
  unfold cntK; rw [List.filter_cons, if_neg (by simp [h])]

set_option maxHeartbeats 2000000 in
theorem findMany_any (T : List (List Ins)) (vt : Value) (w : World) (ht : ThrAt w vt T) (h2 : T.length ≤ 4) (hL : lensB T = true) :
    Calls Try.prog 42 #[vt] w fun e w' => e = .returned (faultM (manyB T)) ∧ Below w.heap.size w w' := by
  have hEl : (evsT T 0).length ≤ 96 := by have := evsT_len T 0 hL; omega
  have hA : cntK 2 (evsT T 0) = cntO 5 T := cntK_evsT 5 2 kinds_enter T 0
  have hB : cntK 4 (evsT T 0) = cntO 7 T := cntK_evsT 7 4 kinds_sync T 0
  have hM : manyB T = (decide (3 < cntK 2 (evsT T 0)) || decide (2 < cntK 4 (evsT T 0)) || decide (2000 < cap2 (sizeN (evsT T 0)))) := by rw [hA, hB]; rfl
  have HT : Hid (ThrAt w vt T) := ht
  have HL : Hid (lensB T = true) := hL
  clear ht hL hA hB
  generalize hE : evsT T 0 = E at hEl hM
  have HE : Hid (evsT T 0 = E) := hE
  have HM : Hid (manyB T = (decide (3 < cntK 2 E) || decide (2 < cntK 4 E) || decide (2000 < cap2 (sizeN E)))) := hM
  clear hM hE
  generalize hmb : manyB T = mb at HM
  clear hmb
  go_enter Try.func42, Try.ntmps42
  go_wp2_with (go_at_call 32; refine (list_any T _ _ (HT.out.keep (below_alloc _ _)) h2 HL.out).mono ?_; rw [HE.out]; rintro e w3 ⟨u2, rfl, hu2, hb3⟩; have HU : Hid (Ev4At w3 u2 E) := hu2; obtain ⟨ao, b, off, cap, hv4, ha, _, hc⟩ := hu2; subst hv4)
  rw [World.size_alloc] at hb3
  go_loopw [4, 5, 12] (fun u s i wr => ∃ (k n m : Nat), k ≤ E.length ∧ i = .int .i64 k ∧ u = .int .i64 n ∧ s = .int .i64 m ∧ n ≤ k ∧ m ≤ k ∧ Hid (cntK 2 E = n + cntK 2 (E.drop k) ∧ cntK 4 E = m + cntK 4 (E.drop k)) ∧ Below w3.heap.size w3 wr) (fun _ _ i _ => E.length - (intOf i).toNat)
  case atStart => exact ⟨0, 0, 0, Nat.zero_le _, rfl, rfl, rfl, Nat.le_refl _, Nat.le_refl _, ⟨(Nat.zero_add _).symm, (Nat.zero_add _).symm⟩, Below.refl _ _⟩
  case round =>
    obtain ⟨k, n, m, hk, rfl, rfl, rfl, hnk, hmk, hn, hb⟩ := hrel
    have hsz := hb.size
    have hs3 := hb3.size
    simp only [World.size_alloc] at hs3
    by_cases hlt : k < E.length
    · obtain ⟨x, hx⟩ := get_of_lt hlt
      have hC := hc k x hx
      have hbl := hC.lt
      obtain rfl := ha (ne_nil hlt)
      obtain ⟨c0, c1, c2, c3⟩ := ev4C_keeps _ _ _ _ _ hb hC
      have HN : Hid (cntK 2 E = n + cntK 2 (x :: E.drop (k + 1)) ∧ cntK 4 E = m + cntK 4 (x :: E.drop (k + 1))) := by rw [← drop_cons hx]; exact hn
      have HC : Hid (∀ k x, E[k]? = some x → Ev4C w3 b (off + k * 4) x) := hc
      clear hn hC ha hx hc
      cases h1 : x.kind == 2
      · cases h4 : x.kind == 4
        · have HM1 : Hid (cntK 2 E = n + cntK 2 (E.drop (k + 1)) ∧ cntK 4 E = m + cntK 4 (E.drop (k + 1))) := ⟨HN.out.1.trans (by rw [cntK_mis h1]), HN.out.2.trans (by rw [cntK_mis h4])⟩
          go_wp2_with fail
          go_roundw
          case measure => simp [intOf]; omega
          case rel => exact ⟨k + 1, n, m, by omega, by go_num, rfl, rfl, by omega, by omega, HM1.out, hb.alloc hsz _⟩
        · have HM1 : Hid (cntK 2 E = n + cntK 2 (E.drop (k + 1)) ∧ cntK 4 E = (m + 1) + cntK 4 (E.drop (k + 1))) := ⟨HN.out.1.trans (by rw [cntK_mis h1]), HN.out.2.trans (by rw [cntK_hit h4]; omega)⟩
          go_wp2_with fail
          go_roundw
          case measure => simp [intOf]; omega
          case rel => exact ⟨k + 1, n, m + 1, by omega, by go_num, rfl, by go_num, by omega, by omega, HM1.out, hb.alloc hsz _⟩
      · have h4 : (x.kind == 4) = false := by rw [beq_iff_eq] at h1; rw [h1]; rfl
        have HM1 : Hid (cntK 2 E = (n + 1) + cntK 2 (E.drop (k + 1)) ∧ cntK 4 E = m + cntK 4 (E.drop (k + 1))) := ⟨HN.out.1.trans (by rw [cntK_hit h1]; omega), HN.out.2.trans (by rw [cntK_mis h4])⟩
        go_wp2_with fail
        go_roundw
        case measure => simp [intOf]; omega
        case rel => exact ⟨k + 1, n + 1, m, by omega, by go_num, by go_num, rfl, by omega, by omega, HM1.out, hb.alloc hsz _⟩
    · have e1 : cntK 2 E = n := hn.out.1.trans (by rw [drop_nil hlt]; rfl)
      have e2 : cntK 4 E = m := hn.out.2.trans (by rw [drop_nil hlt]; rfl)
      have HM2 : Hid (mb = (decide (3 < n) || decide (2 < m) || decide (2000 < cap2 (sizeN E)))) := by rw [← e1, ← e2]; exact HM
      clear hn hc ha e1 e2 HM
      have hb4 : Below (w.heap.size + 1) (w.alloc (.cells #[.int .i64 0, .int .i64 0] 54)) wr := hb3.trans (hb.mono (by omega))
      obtain ⟨d0, d1, f0, f1, s3⟩ := own2 hb4
      have hbF : Below w.heap.size w wr := (below_alloc _ _).trans (hb4.mono (by omega))
      by_cases h3 : 3 < n
      · have HF : Hid (mb = true) := HM2.out.trans (by simp [h3])
        go_wp2_with fail
        exact bodyPost_ret (v := .agg #[.int .i64 5, .int .i64 0]) (by simp [results, Try.results42, go_sem, *]) rfl
          ⟨by rw [HF.out]; rfl, (hbF.setCell (Nat.le_refl _) _).setCell (Nat.le_refl _) _⟩
      · by_cases h5 : 2 < m
        · have HF : Hid (mb = true) := HM2.out.trans (by simp [h5])
          go_wp2_with fail
          exact bodyPost_ret (v := .agg #[.int .i64 5, .int .i64 0]) (by simp [results, Try.results42, go_sem, *]) rfl
            ⟨by rw [HF.out]; rfl, (hbF.setCell (Nat.le_refl _) _).setCell (Nat.le_refl _) _⟩
        · have HM3 : Hid (mb = decide (2000 < cap2 (sizeN E))) := HM2.out.trans (by simp [h3, h5])
          generalize hcs : cap2 (sizeN E) = cs at HM3
          have HCS : Hid (cap2 (sizeN E) = cs) := hcs
          clear hcs HM2
          by_cases h6 : 2000 < cs
          · have HF : Hid (mb = true) := HM3.out.trans (by simp [h6])
            go_wp2_with (go_at_call 33; refine (countP_any E hEl _ _ (HU.out.keep hb)).mono ?_; rw [HCS.out]; rintro e w5 ⟨rfl, hb5⟩; have hb6 := hb4.trans (hb5.mono (by omega)); clear d0 d1 f0 f1 s3; obtain ⟨d0, d1, f0, f1, s3⟩ := own2 hb6)
            exact bodyPost_ret (v := .agg #[.int .i64 5, .int .i64 0]) (by simp [results, Try.results42, go_sem, *]) rfl
              ⟨by rw [HF.out]; rfl, (((below_alloc _ _).trans (hb6.mono (by omega))).setCell (Nat.le_refl _) _).setCell (Nat.le_refl _) _⟩
          · have HF : Hid (mb = false) := HM3.out.trans (by simp [h6])
            go_wp2_with (go_at_call 33; refine (countP_any E hEl _ _ (HU.out.keep hb)).mono ?_; rw [HCS.out]; rintro e w5 ⟨rfl, hb5⟩; have hb6 := hb4.trans (hb5.mono (by omega)); clear d0 d1 f0 f1 s3; obtain ⟨d0, d1, f0, f1, s3⟩ := own2 hb6)
            exact bodyPost_ret (v := .agg #[.int .i64 0, .int .i64 0]) (by simp [results, Try.results42, go_sem, *]) rfl
              ⟨by rw [HF.out]; rfl, (((below_alloc _ _).trans (hb6.mono (by omega))).setCell (Nat.le_refl _) _).setCell (Nat.le_refl _) _⟩

end Go.Proofs.Ytbmlmplbhgahpaa
