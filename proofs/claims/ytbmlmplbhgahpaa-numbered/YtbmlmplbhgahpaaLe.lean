import Derived.Test.YtbmlmplbhgahpaaLa
namespace Go.Proofs.Ytbmlmplbhgahpaa
open Go.RowKit

set_option maxHeartbeats 1000000 in
theorem unnested_any (l : List Ins) (v : Value) (w : World) (h : InsAt w v l) (hl : l.length ≤ 12) :
    Calls Try.prog 56 #[v] w fun e w' => e = .returned (.int .i64 (nst l 0 false)) ∧ Below w.heap.size w w' := by
  obtain ⟨_, ao, b, off, cap, hv, ha, _, hc⟩ := h
  subst hv
  go_enter Try.func56, Try.ntmps56
  go_wp2
  go_loopw [3, 8] (fun en i wr => ∃ (k : Nat) (bb : Bool), k ≤ l.length ∧ i = .int .i64 k ∧ en = .bool bb ∧ Hid (nst l 0 false = nst (l.drop k) k bb) ∧ Below w.heap.size w wr) (fun _ i _ => l.length - (intOf i).toNat)
  case atStart => exact ⟨0, false, Nat.zero_le _, rfl, rfl, rfl, Below.refl _ _⟩
  case round =>
    obtain ⟨k, bb, hk, rfl, rfl, hn, hb⟩ := hrel
    by_cases hlt : k < l.length
    · obtain ⟨x, hx⟩ := get_of_lt hlt
      obtain ⟨c0, c1, c2, c3, c4⟩ := insC_keeps _ _ _ _ _ hb (hc k x hx)
      obtain rfl := ha (by intro h0; subst h0; simp at hlt)
      have HN : Hid (nst l 0 false = nst (x :: l.drop (k + 1)) k bb) := by rw [← drop_cons hx]; exact hn
      clear hc hx hn ha
      cases bb
      all_goals go_wp2_with fail
      all_goals first
        | (go_roundw
           case measure => simp [intOf]; omega
           case rel => exact ⟨k + 1, _, by omega, by go_num, rfl, HN.out.trans (by simp [nst, *]), hb.alloc hb.size _⟩)
        | (go_ret; exact ⟨ret_int (by rw [HN.out]; simp [nst, *]), hb.alloc hb.size _⟩)
    · have HN : Hid (nst l 0 false = nst [] k bb) := by rw [← drop_nil hlt]; exact hn
      have hkl : k = l.length := by omega
      clear hc hn ha
      cases bb
      all_goals go_wp2_with fail
      all_goals (go_ret; exact ⟨ret_int (by rw [HN.out]; simp [nst, *]), hb⟩)

set_option maxHeartbeats 1000000 in
theorem nests_any (l : List Ins) (v : Value) (w : World) (h : InsAt w v l) (hl : l.length ≤ 12) :
    Calls Try.prog 27 #[v] w fun e w' => e = .returned (.int .i64 (nst l 0 false)) ∧ Below w.heap.size w w' := by
  obtain ⟨_, ao, b, off, cap, hv, ha, _, hc⟩ := h
  subst hv
  go_enter Try.func27, Try.ntmps27
  go_wp2
  go_loopw [3, 4] (fun en i wr => ∃ (k : Nat) (bb : Bool), k ≤ l.length ∧ i = .int .i64 k ∧ en = .bool bb ∧ Hid (nst l 0 false = nst (l.drop k) k bb) ∧ Below w.heap.size w wr) (fun _ i _ => l.length - (intOf i).toNat)
  case atStart => exact ⟨0, false, Nat.zero_le _, rfl, rfl, rfl, Below.refl _ _⟩
  case round =>
    obtain ⟨k, bb, hk, rfl, rfl, hn, hb⟩ := hrel
    by_cases hlt : k < l.length
    · obtain ⟨x, hx⟩ := get_of_lt hlt
      obtain ⟨c0, c1, c2, c3, c4⟩ := insC_keeps _ _ _ _ _ hb (hc k x hx)
      obtain rfl := ha (by intro h0; subst h0; simp at hlt)
      have HN : Hid (nst l 0 false = nst (x :: l.drop (k + 1)) k bb) := by rw [← drop_cons hx]; exact hn
      clear hc hx hn ha
      cases bb
      all_goals go_wp2_with fail
      all_goals first
        | (go_roundw
           case measure => simp [intOf]; omega
           case rel => exact ⟨k + 1, _, by omega, by go_num, rfl, HN.out.trans (by simp [nst_cons7, *]), hb⟩)
        | (go_ret; exact ⟨ret_int (by rw [HN.out]; simp [nst_cons7, *]), hb⟩)
    · have HN : Hid (nst l 0 false = nst [] k bb) := by rw [← drop_nil hlt]; exact hn
      have hkl : k = l.length := by omega
      clear hc hn ha
      cases bb
      all_goals go_wp2_with fail
      all_goals (go_ret; exact ⟨ret_int (by rw [HN.out]; simp [nst, *]), hb⟩)

end Go.Proofs.Ytbmlmplbhgahpaa
