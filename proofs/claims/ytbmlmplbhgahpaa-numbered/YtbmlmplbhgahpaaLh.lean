import Derived.Test.YtbmlmplbhgahpaaLb
import Derived.Test.YtbmlmplbhgahpaaLd
import Derived.Test.YtbmlmplbhgahpaaLe
import Derived.Test.YtbmlmplbhgahpaaLg
namespace Go.Proofs.Ytbmlmplbhgahpaa
open Go.RowKit

def faultO (e : Int) (o : Option Nat) : Value := match o with | some p => .agg #[.int .i64 e, .int .i64 p] | none => .agg #[.int .i64 0, .int .i64 0]
def faultI (e : Int) (o : Option Int) : Value := match o with | some p => .agg #[.int .i64 e, .int .i64 p] | none => .agg #[.int .i64 0, .int .i64 0]

theorem ret_agg {a b : Int} (h : a = b) (e : Int) : Ending.returned (.agg #[.int .i64 e, .int .i64 a]) = .returned (.agg #[.int .i64 e, .int .i64 b]) := by rw [h]

set_option maxHeartbeats 1000000 in
theorem findInstr_any (T : List (List Ins)) (vt : Value) (w : World) (ht : ThrAt w vt T) (h2 : T.length ≤ 4) (hL : lensB T = true) :
    Calls Try.prog 39 #[vt] w fun e w' => e = .returned (faultO 2 (insF T 0)) ∧ Below w.heap.size w w' := by
  obtain ⟨ht0, ao, b, off, cap, htv, hta, _, htc⟩ := ht.opened
  subst htv
  go_enter Try.func39, Try.ntmps39
  go_wp2_with fail
  go_loopw [9] (fun i wr => ∃ k : Nat, k ≤ T.length ∧ i = .int .i64 k ∧ Hid (insF T 0 = insF (T.drop k) k) ∧ Below (w.heap.size + 1) (w.alloc (.cells #[.int .i64 0, .int .i64 0] 54)) wr) (fun i _ => T.length - (intOf i).toNat)
  case atStart => exact ⟨0, Nat.zero_le _, rfl, rfl, Below.refl _ _⟩
  case round =>
    obtain ⟨k, hk, rfl, hn, hb⟩ := hrel
    by_cases hlt : k < T.length
    · obtain ⟨l, hx⟩ := get_of_lt hlt
      obtain ⟨hbl, ao2, cap2, c0, hil⟩ := htc k l hx
      obtain rfl := hta (ne_nil hlt)
      have hl12 := lensB_get hL hx
      have HN : Hid (insF T 0 = insF (l :: T.drop (k + 1)) k) := by rw [← drop_cons hx]; exact hn
      have c1 : wr.cell? ⟨b, off + k, none⟩ = some (.slice ao2 l.length cap2) := by
        rw [hb.cell (by simp; omega)]; exact keep_cell (below_alloc _ _) c0
      have HIL : Hid (InsAt w (.slice ao2 l.length cap2) l) := hil
      clear hx hn hil ht c0 hL
      go_wp2_with fail
      go_loopw [16] (fun i w2 => ∃ j : Nat, j ≤ l.length ∧ i = .int .i64 j ∧ Hid (badAt l 0 = badAt (l.drop j) j) ∧ Below (w.heap.size + 1) (w.alloc (.cells #[.int .i64 0, .int .i64 0] 54)) w2) (fun i _ => l.length - (intOf i).toNat)
      case atStart => exact ⟨0, Nat.zero_le _, rfl, rfl, hb⟩
      case round =>
        obtain ⟨j, hj, rfl, hn, hb2⟩ := hrel
        clear hb c1
        by_cases hlt2 : j < l.length
        · obtain ⟨x, hx⟩ := get_of_lt hlt2
          obtain ⟨_, ao3, b3, off3, cap3, hv3, ha3, _, hc3⟩ := HIL.out
          have hC := hc3 j x hx
          have hbl3 := hC.lt
          have hK : Below w.heap.size w wr := (below_alloc _ _).trans (hb2.mono (by omega))
          obtain ⟨c0, c1, c2, c3, c4⟩ := insC_keeps _ _ _ _ _ hK hC
          have HN2 : Hid (badAt l 0 = badAt (x :: l.drop (j + 1)) j) := by rw [← drop_cons hx]; exact hn
          simp only [Value.slice.injEq] at hv3
          obtain ⟨e1, _, e3⟩ := hv3
          rw [ha3 (ne_nil hlt2)] at e1
          subst e1
          clear hn hc3 hC hK ha3 e3 hx
          have hsz : w.heap.size + 1 ≤ wr.heap.size := by have := hb2.size; simpa using this
          cases hm : mayB x
          · have HF : Hid (insF T 0 = some (100 * k + j)) := HN.out.trans (insF_bad (HN2.out.trans (badAt_bad hm _ _)) _ _)
            go_wp2_with (first
              | (go_at_call 54; refine (mayBe_any x _).mono ?_; rintro e w3 ⟨rfl, hb3⟩; have hb4 := (hb2.alloc hsz _).trans (hb3.mono (by simp; omega)); clear hb3; obtain ⟨d0, d1, f0, f1, s3⟩ := own2 hb4)
              | (go_at_call 55; refine (placeOf_any k j (by omega) (by omega) _).mono ?_; rintro e w4 ⟨rfl, rfl⟩))
            exact bodyPost_ret (v := .agg #[.int .i64 2, .int .i64 (100 * k + j)]) (by simp [results, Try.results39, go_sem, *]) rfl
              ⟨by rw [HF.out]; exact ret_agg (by simp) 2, (((below_alloc _ _).trans (hb4.mono (by omega))).setCell (Nat.le_refl _) _).setCell (Nat.le_refl _) _⟩
          · go_wp2_with (first
              | (go_at_call 54; refine (mayBe_any x _).mono ?_; rintro e w3 ⟨rfl, hb3⟩))
            have hb4 := (hb2.alloc hsz _).trans (hb3.mono (by simp; omega))
            go_roundw
            case measure => simp [intOf]; omega
            case rel => exact ⟨j + 1, by omega, by go_num, HN2.out.trans (badAt_ok hm _ _), hb4⟩
        · have HF : Hid (insF T 0 = insF (T.drop (k + 1)) (k + 1)) := HN.out.trans (insF_ok (hn.out.trans (by rw [drop_nil hlt2]; rfl)) _ _)
          clear hn
          go_wp2_with fail
          go_roundw
          case measure => simp [intOf]; omega
          case rel => exact ⟨k + 1, by omega, by go_num, HF.out, hb2⟩
    · have HF : Hid (insF T 0 = none) := by rw [hn, drop_nil hlt]; rfl
      clear hn htc hta ht
      obtain ⟨d0, d1, f0, f1, s3⟩ := own2 hb
      go_wp2_with fail
      exact bodyPost_ret (v := .agg #[.int .i64 0, .int .i64 0]) (by simp [results, Try.results39, go_sem, *]) rfl
        ⟨by rw [HF.out]; rfl, (((below_alloc _ _).trans (hb.mono (by omega))).setCell (Nat.le_refl _) _).setCell (Nat.le_refl _) _⟩

set_option maxHeartbeats 1000000 in
theorem findNest_any (T : List (List Ins)) (vt : Value) (w : World) (ht : ThrAt w vt T) (h2 : T.length ≤ 4) (hL : lensB T = true) :
    Calls Try.prog 40 #[vt] w fun e w' => e = .returned (faultI 3 (nstF T 0)) ∧ Below w.heap.size w w' := by
  obtain ⟨ht0, ao, b, off, cap, htv, hta, _, htc⟩ := ht.opened
  subst htv
  go_enter Try.func40, Try.ntmps40
  go_wp2_with fail
  go_loopw [8] (fun i wr => ∃ k : Nat, k ≤ T.length ∧ i = .int .i64 k ∧ Hid (nstF T 0 = nstF (T.drop k) k) ∧ Below (w.heap.size + 1) (w.alloc (.cells #[.int .i64 0, .int .i64 0] 54)) wr) (fun i _ => T.length - (intOf i).toNat)
  case atStart => exact ⟨0, Nat.zero_le _, rfl, rfl, Below.refl _ _⟩
  case round =>
    obtain ⟨k, hk, rfl, hn, hb⟩ := hrel
    have hsz : w.heap.size + 1 ≤ wr.heap.size := by have := hb.size; simpa using this
    by_cases hlt : k < T.length
    · obtain ⟨l, hx⟩ := get_of_lt hlt
      obtain ⟨hbl, ao2, cap2, c0, hil⟩ := htc k l hx
      obtain rfl := hta (ne_nil hlt)
      have hl12 := lensB_get hL hx
      have HN : Hid (nstF T 0 = nstF (l :: T.drop (k + 1)) k) := by rw [← drop_cons hx]; exact hn
      have hK : Below w.heap.size w wr := (below_alloc _ _).trans (hb.mono (by omega))
      have c1 : wr.cell? ⟨b, off + k, none⟩ = some (.slice ao2 l.length cap2) := keep_cell hK c0
      have HIL : Hid (InsAt wr (.slice ao2 l.length cap2) l) := hil.keep hK
      have hle := nst_le l 0 false
      generalize hp : nst l 0 false = p at hle
      have HP : Hid (nst l 0 false = p) := hp
      clear hx hn hil ht c0 hL htc hK hp hta
      by_cases hp0 : 0 ≤ p
      · obtain ⟨j, rfl⟩ := Int.eq_ofNat_of_zero_le hp0
        have HF : Hid (nstF T 0 = some (100 * k + (j : Int))) := HN.out.trans ((nstF_bad (by rw [HP.out]; omega) _ _).trans (by rw [HP.out]))
        go_wp2_with (first
          | (go_at_call 56; refine (unnested_any l _ _ HIL.out hl12).mono ?_; rw [HP.out]; rintro e w3 ⟨rfl, hb3⟩; have hb4 := hb.trans (hb3.mono hsz); clear hb3; obtain ⟨d0, d1, f0, f1, s3⟩ := own2 hb4)
          | (go_at_call 55; refine (placeOf_any k j (by omega) (by omega) _).mono ?_; rintro e w4 ⟨rfl, rfl⟩))
        exact bodyPost_ret (v := .agg #[.int .i64 3, .int .i64 (100 * k + j)]) (by simp [results, Try.results40, go_sem, *]) rfl
          ⟨by rw [HF.out]; rfl, (((below_alloc _ _).trans (hb4.mono (by omega))).setCell (Nat.le_refl _) _).setCell (Nat.le_refl _) _⟩
      · have HF : Hid (nstF T 0 = nstF (T.drop (k + 1)) (k + 1)) := HN.out.trans (nstF_ok (by rw [HP.out]; omega) _ _)
        go_wp2_with (first
          | (go_at_call 56; refine (unnested_any l _ _ HIL.out hl12).mono ?_; rw [HP.out]; rintro e w3 ⟨rfl, hb3⟩; have hb4 := hb.trans (hb3.mono hsz); clear hb3))
        go_roundw
        case measure => simp [intOf]; omega
        case rel => exact ⟨k + 1, by omega, by go_num, HF.out, hb4⟩
    · have HF : Hid (nstF T 0 = none) := by rw [hn, drop_nil hlt]; rfl
      clear hn htc hta ht
      obtain ⟨d0, d1, f0, f1, s3⟩ := own2 hb
      go_wp2_with fail
      exact bodyPost_ret (v := .agg #[.int .i64 0, .int .i64 0]) (by simp [results, Try.results40, go_sem, *]) rfl
        ⟨by rw [HF.out]; rfl, (((below_alloc _ _).trans (hb.mono (by omega))).setCell (Nat.le_refl _) _).setCell (Nat.le_refl _) _⟩

end Go.Proofs.Ytbmlmplbhgahpaa
