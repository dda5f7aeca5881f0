import Derived.Test.YtomijmikkbhgmaaLm
namespace Go.Proofs.Ytomijmikkbhgmaa
open Go.RowKit

theorem cntO_cons (op : Int) (l : List Ins) (T : List (List Ins)) : cntO op (l :: T) = (l.filter fun x => x.op == op).length + cntO op T := rfl

set_option maxHeartbeats 2000000 in
theorem count_any (T : List (List Ins)) (fa : Bool) (c : List Atm) (v vt vc : Value) (w : World) (h : TestAt w v T fa c vt vc) (h2 : T.length ≤ 4) (hL : lensB T = true) (op : Int) :
    Calls Try.prog 37 #[v, .int .i64 op] w fun e w' => e = .returned (.int .i64 (cntO op T : Nat)) ∧ Below w.heap.size w w' := by
  obtain ⟨hv, ht, ⟨hc0, ao', b', off', cap', hcv, _, _, _⟩⟩ := h
  obtain ⟨ht0, ao, b, off, cap, htv, hta, _, htc⟩ := ht.opened
  subst hv htv hcv
  generalize hN : cntO op T = N
  have HN0 : Hid (cntO op T = N) := hN
  clear hN
  go_enter Try.func37, Try.ntmps37
  go_wp2_with fail
  have hbox := boxed w (.slice ao T.length cap) (.slice ao' c.length cap') fa 25
  generalize w.alloc (.cells #[.slice ao T.length cap, .bool fa, .slice ao' c.length cap'] 25) = W at hbox ⊢
  obtain ⟨hbW, _, g0, _, _⟩ := hbox
  go_loop [5, 6] (fun u i => ∃ (k n : Nat), k ≤ T.length ∧ i = .int .i64 k ∧ u = .int .i64 n ∧ n ≤ 12 * k ∧ Hid (N = n + cntO op (T.drop k))) (fun _ i => T.length - (intOf i).toNat)
  case atStart => exact ⟨0, 0, Nat.zero_le _, rfl, rfl, Nat.le_refl _, by rw [List.drop_zero, HN0.out]; exact (Nat.zero_add _).symm⟩
  case round =>
    obtain ⟨k, n, hk, rfl, rfl, hnk, hn⟩ := hrel
    by_cases hlt : k < T.length
    · obtain ⟨l, hx⟩ := get_of_lt hlt
      obtain ⟨hbl, ao2, cap2, c0, hil⟩ := htc k l hx
      obtain rfl := hta (ne_nil hlt)
      have hl12 := lensB_get hL hx
      have HN : Hid (N = n + ((l.filter fun x => x.op == op).length + cntO op (T.drop (k + 1)))) := hn.out.trans (by rw [drop_cons hx]; rfl)
      have c1 := keep_cell hbW c0
      have HIL : Hid (InsAt W (.slice ao2 l.length cap2) l) := hil.keep hbW
      have hbl2 := World.block_lt_of_cell? _ _ c1
      clear hx hn hil ht c0 hL htc hta HN0
      generalize hR : cntO op (T.drop (k + 1)) = R at HN
      have HR : Hid (cntO op (T.drop (k + 1)) = R) := hR
      clear hR
      go_wp2_with fail
      go_loop [5, 7] (fun u i => ∃ (j n : Nat), j ≤ l.length ∧ i = .int .i64 j ∧ u = .int .i64 n ∧ n ≤ 12 * k + j ∧ Hid (N = n + (((l.drop j).filter fun x => x.op == op).length + R))) (fun _ i => l.length - (intOf i).toNat)
      case atStart => exact ⟨0, n, Nat.zero_le _, rfl, rfl, by omega, HN.out⟩
      case round =>
        clear HN hnk
        obtain ⟨j, n2, hj, rfl, rfl, hnj, hn⟩ := hrel
        by_cases hlt2 : j < l.length
        · obtain ⟨x, hx⟩ := get_of_lt hlt2
          obtain ⟨_, ao3, b3, off3, cap3, hv3, ha3, _, hc3⟩ := HIL.out
          have hC := hc3 j x hx
          have hbl3 := hC.lt
          have d0 := hC.c0
          rw [drop_cons hx] at hn
          have HN2 : Hid (N = n2 + (((x :: l.drop (j + 1)).filter fun x => x.op == op).length + R)) := hn
          simp only [Value.slice.injEq] at hv3
          obtain ⟨e1, _, e3⟩ := hv3
          rw [ha3 (ne_nil hlt2)] at e1
          subst e1
          clear hn hc3 hC ha3 e3 hx
          cases hop : x.op == op
          · have HM : Hid (N = n2 + (((l.drop (j + 1)).filter fun x => x.op == op).length + R)) := HN2.out.trans (by rw [List.filter_cons, hop]; rfl)
            go_wp2_with fail
            go_round
            case measure => simp [intOf]; omega
            case rel => exact ⟨j + 1, n2, by omega, by go_num, rfl, by omega, HM.out⟩
          · have HM : Hid (N = (n2 + 1) + (((l.drop (j + 1)).filter fun x => x.op == op).length + R)) := HN2.out.trans (by rw [List.filter_cons, hop]; simp; omega)
            go_wp2_with fail
            go_round
            case measure => simp [intOf]; omega
            case rel => exact ⟨j + 1, n2 + 1, by omega, by go_num, by go_num, by omega, HM.out⟩
        · have HM : Hid (N = n2 + cntO op (T.drop (k + 1))) := hn.out.trans (by rw [drop_nil hlt2, HR.out]; simp)
          clear hn
          go_wp2_with fail
          go_round
          case measure => simp [intOf]; omega
          case rel => exact ⟨k + 1, n2, by omega, by go_num, rfl, by omega, HM.out⟩
    · have HM : Hid (N = n) := hn.out.trans (by rw [drop_nil hlt]; rfl)
      clear hn htc hta ht
      go_wp2_with fail
      go_ret
      exact ⟨by rw [HM.out]; rfl, hbW⟩

end Go.Proofs.Ytomijmikkbhgmaa
